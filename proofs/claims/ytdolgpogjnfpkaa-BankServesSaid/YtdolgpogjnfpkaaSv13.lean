/- Get. -/
import Derived.Test.YtdolgpogjnfpkaaSv12
namespace Go.Proofs.Ytdolgpogjnfpkaa
set_option linter.unusedVariables false
open Go.ChangeShapes Go.WideShapes Go.ChangeAt Go.RowKit

/-- What bytes would ask for, as a request. -/
def dq (f : Fo) (L : List Nat) : Rq := ⟨((L.getD 0 0 : Nat) : Int), ((getN f L).ad : Int), ((getN f L).q : Int), none, 0, 0, (getN f L).V, ((getN f L).to : Int)⟩
def zq : Rq := ⟨0, 0, 0, none, 0, 0, [], 0⟩
def getC (L : List Nat) : Nat :=
  if L = [] then 1 else match formOf ((L.getD 0 0 : Nat) : Int) with
    | none => 1
    | some f => if has f (dq f L) && decide (putR f (dq f L) = L) then (if fits f (dq f L) then 0 else 2) else 3
def getQ (L : List Nat) : Rq := if getC L = 0 then dq (fo ((L.getD 0 0 : Nat) : Int)) L else zq
def wsl (r : Rq) (vs : Option Addr) (vn vc : Nat) : Rq := ⟨r.fc, r.ad, r.q, vs, vn, vc, r.V, r.to⟩
def GetP (w : World) (L : List Nat) (e : Ending) (w' : World) : Prop := ∃ vs vn vc, e = .returned (.tuple #[rv (wsl (getQ L) vs vn vc), .int .i64 (getC L : Nat)]) ∧ ArgW w' vs vn vc (getQ L).V ∧ Below w.heap.size w w' ∧ ∀ b off, vs = some ⟨b, off, none⟩ → w.heap.size ≤ b
theorem getp_bad {w : World} {L : List Nat} {c : Nat} (h : getC L = c) (hc : c ≠ 0) (w' : World) (hb : Below w.heap.size w w') : GetP w L (.returned (.tuple #[.agg #[.int .i64 0, .int .i64 0, .int .i64 0, .slice none 0 0, .int .i64 0], .int .i64 (c : Nat)])) w' := by
  have hq : getQ L = zq := by unfold getQ; rw [if_neg (by omega)]
  refine ⟨none, 0, 0, by rw [hq, h]; rfl, ?_, hb, fun b off e => by cases e⟩
  rw [hq]
  exact ⟨Wds.nil _ _, fun _ => ⟨rfl, rfl⟩, Nat.le_refl _, Nat.zero_le _⟩
theorem argw_set5 {W : World} {r : Nat} {vs : Option Addr} {vn vc : Nat} {V : List Nat} (h : ArgW W vs vn vc V) (hz : W.heap[r]? = some (.cells #[.int .i64 0, .int .i64 0, .int .i64 0, .slice none 0 0, .int .i64 0] 32 (0, 0))) (v0 v1 v2 v3 v4 : Value) : ArgW (((((W.setCell ⟨r, 0, none⟩ v0).setCell ⟨r, 1, none⟩ v1).setCell ⟨r, 2, none⟩ v2).setCell ⟨r, 3, none⟩ v3).setCell ⟨r, 4, none⟩ v4) vs vn vc V := by
  refine ⟨⟨h.row.ln, h.row.le, h.row.by', ?_⟩, h.nil, h.le, h.mx⟩
  rcases h.row.at' with z | ⟨b, off, e, hlt, hc⟩
  · exact .inl z
  · by_cases h0 : vn = 0
    · exact .inl h0
    · have hne : b ≠ r := by
        rintro rfl
        have := hc 0 (by omega)
        rw [Nat.add_zero] at this
        simp [World.cell?, hz] at this
        rcases off with _ | _ | _ | _ | _ | off <;> simp at this
      refine .inr ⟨b, off, e, by simpa [World.setCell] using hlt, fun i hi => ?_⟩
      exact (World.cell?_of_block (a := ⟨b, off + i, none⟩) (set5_blk hne v0 v1 v2 v3 v4)).trans (hc i hi)
theorem getN_lt (f : Fo) (L : List Nat) (h : ∀ b ∈ L, b < 256) : (getN f L).ad < 65536 ∧ (getN f L).q < 65536 ∧ (getN f L).to < 65536 := by
  have h0 : ∀ b ∈ L.drop 1, b < 256 := fun b hb => h b (List.mem_of_mem_drop hb)
  have h1 := W2_by h0
  have h2 := W2_by h1
  refine ⟨W1_lt h0, ?_, ?_⟩
  · show (if 0 < f.q then W1 (W2 (L.drop 1)) else 0) < 65536
    split
    · exact W1_lt h1
    · omega
  · show (if f.to = true then W1 (if 0 < f.q then W2 (W2 (L.drop 1)) else W2 (L.drop 1)) else 0) < 65536
    split
    · split
      · exact W1_lt h2
      · exact W1_lt h1
    · omega
set_option maxRecDepth 100000 in
set_option maxHeartbeats 8000000 in
theorem get_any (a : Option Addr) (n cp : Nat) (L : List Nat) (w : World) (h : ArgB w a n cp L) (hn : n ≤ 100000) : Calls Try.prog 28 #[.slice a n cp] w (GetP w L) := by
  have hln := h.row.ln
  have hle := h.row.le
  unfold maxLen at hle
  by_cases h0 : n = 0
  · subst h0
    have hL := h.row.of_zero
    have hc : getC L = 1 := by unfold getC; rw [if_pos hL]
    have HPB := Lib.hid (fun w' hb => getp_bad hc (by omega) (w := w) w' hb)
    clear h hL hc hln
    go_enter Try.func28, Try.ntmps28
    go_wp2_with fail
    exact bodyPost_ret (v := .tuple #[.agg #[.int .i64 0, .int .i64 0, .int .i64 0, .slice none 0 0, .int .i64 0], .int .i64 1]) (by simp [results, Try.results28, go_sem]) rfl (HPB.out _ ((Below.refl _ _).alloc (Nat.le_refl _) _))
  obtain ⟨b, off, rfl, hbl, hcc⟩ := h.row.pos (by omega)
  have cb0 : w.cell? ⟨b, off, none⟩ = some (.int .u8 ((L.getD 0 0 : Nat) : Int)) := hcc 0 (by omega)
  have l0 := getD_lt h.row.by' 0
  obtain ⟨x0, hx0⟩ : ∃ x, x = L.getD 0 0 := ⟨_, rfl⟩
  rw [← hx0] at cb0 l0
  have HX0 := Lib.hid hx0
  have HARG := Lib.hid h
  obtain ⟨P, hP⟩ : ∃ P, P = GetP w L := ⟨_, rfl⟩
  rw [← hP]
  have HP := Lib.hid hP
  obtain ⟨f, hf⟩ : ∃ f, f = fo (x0 : Int) := ⟨_, rfl⟩
  have HF := Lib.hid hf
  obtain ⟨bb, hbb⟩ : ∃ b, b = (formOf (x0 : Int)).isSome := ⟨_, rfl⟩
  have HBB := Lib.hid hbb
  have HSM : Hid f.small := Lib.hid (by rw [hf]; exact form_small _)
  have HLN := Lib.hid hln
  have hL0 : ¬ L = [] := fun e => by rw [e] at hln; simp at hln; omega
  have HL0 := Lib.hid hL0
  clear hP h hf hbb hcc hx0 hL0 hln
  obtain ⟨rd, wt, bi, fq, le, mo, co, tq⟩ := f
  have hk0 := fun (w' : World) (m : Nat) (hm : IMap Try.prog 3 w' m 10 (fun i => (formOf i).map fv)) => look_f_ok hm (wfk (n := (x0 : Int)) (by omega) (by omega))
  simp only [← HF.out, ← HBB.out, fv] at hk0
  have HK0 := Lib.hid hk0
  have u0 : IntKind.i64.wrap (x0 : Int) = (x0 : Int) := IntWalk.i64_in _ (by omega)
  have i0 : 0 < n := by omega
  have t0 : ((n : Int) == 0) = false := by simp; omega
  clear hk0
  go_enter Try.func28, Try.ntmps28
  go_upto_region 3 with fail
  obtain ⟨W, hW⟩ : ∃ W, W = w.alloc (.cells #[.int .i64 0, .int .i64 0, .int .i64 0, .slice none 0 0, .int .i64 0] 32 (0, 0)) := ⟨_, rfl⟩
  rw [← hW]
  have hbw : Below w.heap.size w W := by rw [hW]; exact (Below.refl _ _).alloc (Nat.le_refl _) _
  have hbk : W.heap[w.heap.size]? = some (.cells #[.int .i64 0, .int .i64 0, .int .i64 0, .slice none 0 0, .int .i64 0] 32 (0, 0)) := by rw [hW]; exact heap_alloc_new _ _
  have hws : w.heap.size < W.heap.size := blk_lt hbk
  have hcw := (hbw.cell (p := ⟨b, off, none⟩) hbl).trans cb0
  have hbW : b < W.heap.size := by omega
  have BW := Lib.hid hbw
  have BK := Lib.hid hbk
  have HWS := Lib.hid hws
  have HCW := Lib.hid hcw
  have HBW := Lib.hid hbW
  clear hbw hbk hws hW hcw cb0 hbW
  go_cut [4, 5] from 7 (fun p b W' => ∃ g, p = .pointer (some ⟨g, 0, none⟩) ∧ b = .bool bb ∧ W'.heap[g]? = some (.cells #[.bool rd, .bool wt, .bool bi, .int .i64 (fq : Int), .int .i64 (le : Int), .int .i64 (mo : Int), .bool co, .bool tq] 81 (0, 0)) ∧ W.heap.size ≤ g ∧ Below W.heap.size W W')
  case first =>
    have KS := Lib.hid (fun (w' : World) (hb : Gd W w') => (Below.cell hb (p := ⟨b, off, none⟩) HBW.out).trans HCW.out)
    have g0 : Gd W W.drew := (Below.refl _ _).drew
    have g1 : Gd W (W.alloc (.cells #[.bool false, .bool false, .bool false, .int .i64 0, .int .i64 0, .int .i64 0, .bool false, .bool false] 81 (0, 0))).drew := ((Below.refl _ _).alloc (Nat.le_refl _) _).drew
    have g6 : Iw W (W.alloc (.cells #[.bool false, .bool false, .bool false, .int .i64 0, .int .i64 0, .int .i64 0, .bool false, .bool false] 81 (0, 0))).drew := ⟨heap_alloc_new W _⟩
    have hn1 : ¬ b = W.heap.size := by have := HBW.out; omega
    have hn2 : ¬ W.heap.size = b := by have := HBW.out; omega
    go_region_held3 (fun w' => w'.cell? ⟨b, off, none⟩ = some (.int .u8 (x0 : Int))) (first | exact KS.out _ (by simp only [g0, g1]) | exact KS.out _ (by simp only [g5]) | exact KS.out _ (by simp only [Gd.al, g5]) | go_keep) (first
      | (go_at_call 51; refine (forms_any _).mono ?_; rintro e w5 ⟨m, rfl, hm, hb5⟩; have g5 : Gd W w5 := Gd.step (by simp only [g0, g1]) hb5; have cb5 := KS.out w5 g5; have hk := HK0.out w5 m hm; have hk2 := fun o => HK0.out _ m (IMap.below hm (Below.alloc (Below.refl _ w5) (Nat.le_refl _) o)); have hb6 : ¬ b = w5.heap.size := (by have := Below.size g5; have := HBW.out; omega); first | (have zz : Iw W w5 := Iw.step (by simp only [g6]) hb5; have zc := iw_cells zz; obtain ⟨z0, z1, z2, z3, z4, z5, z6, z7, y0, y1, y2, y3, y4, y5, y6, y7⟩ := zc) | skip)
      | fail)
    all_goals
      first
        | (have hset := Lib.hid (iw_set zz (.bool rd) (.bool wt) (.bool bi) (.int .i64 (fq : Int)) (.int .i64 (le : Int)) (.int .i64 (mo : Int)) (.bool co) (.bool tq))
           have hbel := Lib.hid (set8_bel g5 (.bool rd) (.bool wt) (.bool bi) (.int .i64 (fq : Int)) (.int .i64 (le : Int)) (.int .i64 (mo : Int)) (.bool co) (.bool tq))
           clear zz
           go_wp2_with fail
           go_meet
           exact ⟨W.heap.size, rfl, rfl, hset.out, Nat.le_refl _, hbel.out⟩)
        | (have hal := Lib.hid (Gd.al (.cells #[.bool rd, .bool wt, .bool bi, .int .i64 (fq : Int), .int .i64 (le : Int), .int .i64 (mo : Int), .bool co, .bool tq] 81 (0, 0)) g5)
           have hsz := Lib.hid (Below.size g5)
           go_wp2_with fail
           go_meet
           exact ⟨w5.heap.size, rfl, rfl, heap_alloc_new _ _, hsz.out, hal.out⟩)
  case rest =>
  obtain ⟨g, rfl, rfl, hg, hgw, hbc⟩ := hcut
  obtain ⟨W1', hW⟩ : ∃ W, W = wc := ⟨_, rfl⟩
  subst hW
  have KC := Lib.hid (fun (w' : World) (hb : Below W1'.heap.size W1' w') => And.intro (cells8 (low_of hb hg)) (And.intro (cells5 (low_of hb (low_of hbc BK.out))) (fun i => froz (i := i) (low_of hb (low_of hbc BK.out)))))
  have AR := Lib.hid (fun (w' : World) (hb : Below W1'.heap.size W1' w') => (HARG.out.below BW.out).below (hbc.trans (hb.mono hbc.size)))
  have ZB := Lib.hid (fun (w' : World) (hb : Below W1'.heap.size W1' w') => low_of hb (low_of hbc BK.out))
  have BE := Lib.hid (fun (w' : World) (hb : Below W1'.heap.size W1' w') => BW.out.trans ((hbc.trans (hb.mono hbc.size)).mono (Nat.le_of_lt HWS.out)))
  have GLT := Lib.hid (show w.heap.size < g ∧ g < W1'.heap.size from ⟨Nat.lt_of_lt_of_le HWS.out hgw, blk_lt hg⟩)
  obtain ⟨⟨f0, f1, f2, f3, f4, f5, f6, f7⟩, ⟨c0, c1, c2, c3, c4⟩, hfr⟩ := KC.out W1' (Below.refl _ _)
  have r0 := hfr 0
  have r1 := hfr 1
  have r2 := hfr 2
  have r3 := hfr 3
  have r4 := hfr 4
  clear hg hgw hbc hfr HCW HBW
  cases bb with
  | false =>
    have hc : getC L = 1 := by
      unfold getC
      rw [if_neg HL0.out, ← HX0.out]
      have := HBB.out
      cases e : formOf (x0 : Int) with
      | none => rfl
      | some f => rw [e] at this; cases this
    have HPB := Lib.hid (fun w' hb => getp_bad hc (by omega) (w := w) w' hb)
    clear hc
    go_wp2_with fail
    exact bodyPost_ret (v := .tuple #[.agg #[.int .i64 0, .int .i64 0, .int .i64 0, .slice none 0 0, .int .i64 0], .int .i64 1]) (by simp [results, Try.results28, go_sem, c0, c1, c2, c3, c4]) rfl (by rw [HP.out]; exact HPB.out _ (by first | exact set5_bel (BE.out _ (Below.refl _ _)) (Nat.le_refl _) _ _ _ _ _ | exact BE.out _ (Below.refl _ _)))
  | true =>
    have hk : formOf (x0 : Int) = some (fo (x0 : Int)) := fo_some HBB.out
    have hff : (⟨rd, wt, bi, fq, le, mo, co, tq⟩ : Fo) = fo (x0 : Int) := HF.out
    rw [← hff] at hk
    have HK := Lib.hid hk
    have GE := Lib.hid (get_of hk (some ⟨b, off, none⟩) n cp L W1' (AR.out _ (Below.refl _ _)) i0 hn)
    simp only [fv] at GE
    clear hk hff
    have GE2 := Lib.hid (GE.out.mono (fun e w' hg => show ∃ r : Rq, e = .returned (rv r) ∧ (∃ vs vn vc, r = wsl (dq ⟨rd, wt, bi, fq, le, mo, co, tq⟩ L) vs vn vc) ∧ ArgW w' r.vs r.vn r.vc r.V ∧ Below W1'.heap.size W1' w' ∧ (∀ b off, r.vs = some ⟨b, off, none⟩ → W1'.heap.size ≤ b) from (by
      obtain ⟨vs, vn, vc, he, hA, hb, hfr⟩ := hg
      exact ⟨wsl (dq ⟨rd, wt, bi, fq, le, mo, co, tq⟩ L) vs vn vc, he, ⟨vs, vn, vc, rfl⟩, hA, hb, hfr⟩)))
    go_wp2_with fail
    refine GE2.out.mono ?_
    rintro e w2 ⟨r, rfl, hrq, hA, b2, hfr⟩
    have HFR := Lib.hid (fun b off (e : r.vs = some ⟨b, off, none⟩) => show w.heap.size ≤ b by have := hfr b off e; have := GLT.out; omega)
    clear hfr
    have hlt := getN_lt ⟨rd, wt, bi, fq, le, mo, co, tq⟩ L HARG.out.row.by'
    have hok2 : r.ok w2 ∧ r.fc = (x0 : Int) := by
      obtain ⟨vs, vn, vc, rfl⟩ := hrq
      refine ⟨⟨hA, ?_, ?_, ?_, ?_⟩, ?_⟩
      · show (Lit.int .i64 ((L.getD 0 0 : Nat) : Int)).wf = true
        rw [← HX0.out]; exact wfk (by omega) (by omega)
      · exact wfk (n := (((getN ⟨rd, wt, bi, fq, le, mo, co, tq⟩ L).ad : Nat) : Int)) (by omega) (by omega)
      · exact wfk (n := (((getN ⟨rd, wt, bi, fq, le, mo, co, tq⟩ L).q : Nat) : Int)) (by omega) (by omega)
      · exact wfk (n := (((getN ⟨rd, wt, bi, fq, le, mo, co, tq⟩ L).to : Nat) : Int)) (by omega) (by omega)
      · show ((L.getD 0 0 : Nat) : Int) = (x0 : Int)
        rw [← HX0.out]
    have HOK := Lib.hid hok2.1
    have HFC := Lib.hid hok2.2
    have hsame : (∀ g : Fo, has g r = has g (dq ⟨rd, wt, bi, fq, le, mo, co, tq⟩ L) ∧ putR g r = putR g (dq ⟨rd, wt, bi, fq, le, mo, co, tq⟩ L) ∧ fits g r = fits g (dq ⟨rd, wt, bi, fq, le, mo, co, tq⟩ L)) ∧ ∃ vs vn vc, r = wsl (dq ⟨rd, wt, bi, fq, le, mo, co, tq⟩ L) vs vn vc ∧ vs = r.vs ∧ vn = r.vn ∧ vc = r.vc := by
      obtain ⟨vs, vn, vc, rfl⟩ := hrq
      exact ⟨fun g => ⟨rfl, rfl, rfl⟩, vs, vn, vc, rfl, rfl, rfl, rfl⟩
    have HSAME := Lib.hid hsame
    clear hrq hlt hok2 hsame hA
    obtain ⟨fc, ad, q, vs, vn, vc, V, rto⟩ := r
    simp only [rv]
    have al := (Below.refl w2.heap.size w2).alloc (Nat.le_refl _) (.cells #[.int .i64 fc, .int .i64 ad, .int .i64 q, .slice vs vn vc, .int .i64 rto] 32 (0, 0))
    have B2 := Lib.hid b2
    have b3 := b2.trans (al.mono b2.size)
    have K2 := Lib.hid (fun (w' : World) (hb : Below (w2.alloc (.cells #[.int .i64 fc, .int .i64 ad, .int .i64 q, .slice vs vn vc, .int .i64 rto] 32 (0, 0))).heap.size (w2.alloc (.cells #[.int .i64 fc, .int .i64 ad, .int .i64 q, .slice vs vn vc, .int .i64 rto] 32 (0, 0))) w') => And.intro (KC.out w' (b3.trans (hb.mono b3.size))).1 (And.intro (KC.out w' (b3.trans (hb.mono b3.size))).2.1 (And.intro (KC.out w' (b3.trans (hb.mono b3.size))).2.2 (cells5 (low_of hb (heap_alloc_new w2 (.cells #[.int .i64 fc, .int .i64 ad, .int .i64 q, .slice vs vn vc, .int .i64 rto] 32 (0, 0))))))))
    have BE2 := Lib.hid (fun (w' : World) (hb : Below (w2.alloc (.cells #[.int .i64 fc, .int .i64 ad, .int .i64 q, .slice vs vn vc, .int .i64 rto] 32 (0, 0))).heap.size (w2.alloc (.cells #[.int .i64 fc, .int .i64 ad, .int .i64 q, .slice vs vn vc, .int .i64 rto] 32 (0, 0))) w') => BE.out w' (b3.trans (hb.mono b3.size)))
    have AR2 := Lib.hid (fun (w' : World) (hb : Below (w2.alloc (.cells #[.int .i64 fc, .int .i64 ad, .int .i64 q, .slice vs vn vc, .int .i64 rto] 32 (0, 0))).heap.size (w2.alloc (.cells #[.int .i64 fc, .int .i64 ad, .int .i64 q, .slice vs vn vc, .int .i64 rto] 32 (0, 0))) w') => AR.out w' (b3.trans (hb.mono b3.size)))
    have RO := Lib.hid (fun (w' : World) (hb : Below (w2.alloc (.cells #[.int .i64 fc, .int .i64 ad, .int .i64 q, .slice vs vn vc, .int .i64 rto] 32 (0, 0))).heap.size (w2.alloc (.cells #[.int .i64 fc, .int .i64 ad, .int .i64 q, .slice vs vn vc, .int .i64 rto] 32 (0, 0))) w') => (HOK.out.below al).below hb)
    have HA := Lib.hid (has_any ⟨rd, wt, bi, fq, le, mo, co, tq⟩ ⟨fc, ad, q, vs, vn, vc, V, rto⟩ _ HSM.out (RO.out _ (Below.refl _ _)))
    simp only [fv, rv] at HA
    clear al b2 b3 f0 f1 f2 f3 f4 f5 f6 f7 c0 c1 c2 c3 c4 r0 r1 r2 r3 r4
    obtain ⟨⟨f0, f1, f2, f3, f4, f5, f6, f7⟩, _, _⟩ := K2.out _ (Below.refl _ _)
    go_wp2_with fail
    refine HA.out.mono ?_
    rintro e w4 ⟨rfl, b4⟩
    have B4 := Lib.hid b4
    clear b4 f0 f1 f2 f3 f4 f5 f6 f7
    obtain ⟨⟨f0, f1, f2, f3, f4, f5, f6, f7⟩, ⟨z0, z1, z2, z3, z4⟩, hfr, ⟨c0, c1, c2, c3, c4⟩⟩ := K2.out w4 B4.out
    have r0 := hfr 0
    have r1 := hfr 1
    have r2 := hfr 2
    have r3 := hfr 3
    have r4 := hfr 4
    have BEL := Lib.hid (BE2.out w4 B4.out)
    clear hfr
    cases hhas : has ⟨rd, wt, bi, fq, le, mo, co, tq⟩ ⟨fc, ad, q, vs, vn, vc, V, rto⟩ with
    | false =>
      have hh : has ⟨rd, wt, bi, fq, le, mo, co, tq⟩ (dq ⟨rd, wt, bi, fq, le, mo, co, tq⟩ L) = false := by rw [← (HSAME.out.1 ⟨rd, wt, bi, fq, le, mo, co, tq⟩).1]; exact hhas
      have hc : getC L = 3 := by
        unfold getC
        rw [if_neg HL0.out, ← HX0.out, HK.out]
        simp [hh]
      have HPB := Lib.hid (fun w' hb => getp_bad hc (by omega) (w := w) w' hb)
      clear hc
      go_wp2_with fail
      exact bodyPost_ret (v := .tuple #[.agg #[.int .i64 0, .int .i64 0, .int .i64 0, .slice none 0 0, .int .i64 0], .int .i64 3]) (by simp [results, Try.results28, go_sem, z0, z1, z2, z3, z4]) rfl (by rw [HP.out]; exact HPB.out _ (by first | exact set5_bel BEL.out (Nat.le_refl _) _ _ _ _ _ | exact BEL.out))
    | true =>
      have hh : has ⟨rd, wt, bi, fq, le, mo, co, tq⟩ (dq ⟨rd, wt, bi, fq, le, mo, co, tq⟩ L) = true := by rw [← (HSAME.out.1 ⟨rd, wt, bi, fq, le, mo, co, tq⟩).1]; exact hhas
      have HH := Lib.hid hh
      have HHAS := Lib.hid hhas
      have hx1 : (0 : Int) ≤ fc := by have : fc = (x0 : Int) := HFC.out; omega
      have hx2 : fc < 256 := by have : fc = (x0 : Int) := HFC.out; omega
      have PB := Lib.hid (put_by HK.out (RO.out _ B4.out) hhas hx1 hx2)
      have PU := Lib.hid (put_of HK.out ⟨fc, ad, q, vs, vn, vc, V, rto⟩ w4 (RO.out _ B4.out) hhas hx1 hx2)
      simp only [fv, rv] at PU
      clear hh hhas hx1 hx2
      go_wp2_with fail
      refine PU.out.mono ?_
      rintro e w5 ⟨v, rfl, ho, b5⟩
      obtain ⟨pa, pc, rfl, hM, _, _⟩ := own_arg ho PB.out
      have B5 := Lib.hid (B4.out.trans (b5.mono B4.out.size))
      have EQ := Lib.hid (equal_any pa _ pc _ (some ⟨b, off, none⟩) n cp L w5 hM (AR2.out _ B5.out).row)
      clear ho b5 hM f0 f1 f2 f3 f4 f5 f6 f7 z0 z1 z2 z3 z4 r0 r1 r2 r3 r4 c0 c1 c2 c3 c4 BEL
      go_wp2_with fail
      refine EQ.out.mono ?_
      rintro e w6 ⟨rfl, rfl⟩
      obtain ⟨⟨f0, f1, f2, f3, f4, f5, f6, f7⟩, ⟨z0, z1, z2, z3, z4⟩, hfr, ⟨c0, c1, c2, c3, c4⟩⟩ := K2.out w6 B5.out
      have r0 := hfr 0
      have r1 := hfr 1
      have r2 := hfr 2
      have r3 := hfr 3
      have r4 := hfr 4
      have BEL := Lib.hid (BE2.out w6 B5.out)
      clear hfr
      have hpr : putR ⟨rd, wt, bi, fq, le, mo, co, tq⟩ ⟨fc, ad, q, vs, vn, vc, V, rto⟩ = putR ⟨rd, wt, bi, fq, le, mo, co, tq⟩ (dq ⟨rd, wt, bi, fq, le, mo, co, tq⟩ L) := (HSAME.out.1 ⟨rd, wt, bi, fq, le, mo, co, tq⟩).2.1
      by_cases heq : putR ⟨rd, wt, bi, fq, le, mo, co, tq⟩ ⟨fc, ad, q, vs, vn, vc, V, rto⟩ = L
      · rw [decide_eq_true heq]
        have HEQ := Lib.hid (hpr.symm.trans heq)
        have hh := (has_iff ⟨rd, wt, bi, fq, le, mo, co, tq⟩ ⟨fc, ad, q, vs, vn, vc, V, rto⟩).1 HHAS.out
        have FI := Lib.hid (fits_any ⟨rd, wt, bi, fq, le, mo, co, tq⟩ ⟨fc, ad, q, vs, vn, vc, V, rto⟩ w6 HSM.out (RO.out _ B5.out) hh.1 hh.2.1 (by have := HSM.out.q; have := hh.2.2.2.1; simp only at *; omega) (by have := HSM.out.mo; have := hh.2.2.2.2.2.2.1; simp only at *; omega))
        simp only [fv, rv] at FI
        clear heq hpr hh
        go_wp2_with fail
        refine FI.out.mono ?_
        rintro e w7 ⟨rfl, b7⟩
        have B7 := Lib.hid (B5.out.trans (b7.mono B5.out.size))
        clear b7 f0 f1 f2 f3 f4 f5 f6 f7 z0 z1 z2 z3 z4 r0 r1 r2 r3 r4 c0 c1 c2 c3 c4 BEL
        obtain ⟨⟨f0, f1, f2, f3, f4, f5, f6, f7⟩, ⟨z0, z1, z2, z3, z4⟩, hfr, ⟨c0, c1, c2, c3, c4⟩⟩ := K2.out w7 B7.out
        have r0 := hfr 0
        have r1 := hfr 1
        have r2 := hfr 2
        have r3 := hfr 3
        have r4 := hfr 4
        have BEL := Lib.hid (BE2.out w7 B7.out)
        clear hfr
        cases hfi : fits ⟨rd, wt, bi, fq, le, mo, co, tq⟩ ⟨fc, ad, q, vs, vn, vc, V, rto⟩ with
        | false =>
          have hf2 : fits ⟨rd, wt, bi, fq, le, mo, co, tq⟩ (dq ⟨rd, wt, bi, fq, le, mo, co, tq⟩ L) = false := by rw [← (HSAME.out.1 ⟨rd, wt, bi, fq, le, mo, co, tq⟩).2.2]; exact hfi
          have hc : getC L = 2 := by
            unfold getC
            rw [if_neg HL0.out, ← HX0.out, HK.out]
            simp [HH.out, HEQ.out, hf2]
          have HPB := Lib.hid (fun w' hb => getp_bad hc (by omega) (w := w) w' hb)
          clear hc
          go_wp2_with fail
          exact bodyPost_ret (v := .tuple #[.agg #[.int .i64 0, .int .i64 0, .int .i64 0, .slice none 0 0, .int .i64 0], .int .i64 2]) (by simp [results, Try.results28, go_sem, z0, z1, z2, z3, z4]) rfl (by rw [HP.out]; exact HPB.out _ (by first | exact set5_bel BEL.out (Nat.le_refl _) _ _ _ _ _ | exact BEL.out))
        | true =>
          have hf2 : fits ⟨rd, wt, bi, fq, le, mo, co, tq⟩ (dq ⟨rd, wt, bi, fq, le, mo, co, tq⟩ L) = true := by rw [← (HSAME.out.1 ⟨rd, wt, bi, fq, le, mo, co, tq⟩).2.2]; exact hfi
          have hc : getC L = 0 := by
            unfold getC
            rw [if_neg HL0.out, ← HX0.out, HK.out]
            simp [HH.out, HEQ.out, hf2]
          have hfin : ∀ W', Below w7.heap.size w7 W' ∨ (Below w.heap.size w W' ∧ ArgW W' vs vn vc V) → Below w.heap.size w W' → ArgW W' vs vn vc V → GetP w L (.returned (.tuple #[.agg #[.int .i64 fc, .int .i64 ad, .int .i64 q, .slice vs vn vc, .int .i64 rto], .int .i64 0])) W' := by
            intro W' _ hb hAr
            have hq : getQ L = dq ⟨rd, wt, bi, fq, le, mo, co, tq⟩ L := by
              unfold getQ
              rw [if_pos hc, ← HX0.out]
              have hff : (⟨rd, wt, bi, fq, le, mo, co, tq⟩ : Fo) = fo (x0 : Int) := HF.out
              rw [← hff]
            obtain ⟨_, vs', vn', vc', hr, h1, h2, h3⟩ := HSAME.out
            have h1 : vs' = vs := h1
            have h2 : vn' = vn := h2
            have h3 : vc' = vc := h3
            subst h1 h2 h3
            refine ⟨vs', vn', vc', ?_, ?_, hb, fun b off e => HFR.out b off e⟩
            · rw [hq, hc, ← hr]; rfl
            · rw [hq]
              have hv : V = (dq ⟨rd, wt, bi, fq, le, mo, co, tq⟩ L).V := congrArg Rq.V hr
              rw [← hv]; exact hAr
          have HFIN := Lib.hid hfin
          have HZB := Lib.hid (ZB.out w7 (B2.out.trans ((((Below.refl w2.heap.size w2).alloc (Nat.le_refl _) (.cells #[.int .i64 fc, .int .i64 ad, .int .i64 q, .slice vs vn vc, .int .i64 rto] 32 (0, 0))).trans (B7.out.mono (by simp))).mono B2.out.size)))
          have HAR := Lib.hid (RO.out w7 B7.out).arg
          clear hf2 hc hfin hfi
          go_wp2_with fail
          exact bodyPost_ret (v := .tuple #[.agg #[.int .i64 fc, .int .i64 ad, .int .i64 q, .slice vs vn vc, .int .i64 rto], .int .i64 0]) (by simp [results, Try.results28, go_sem, z0, z1, z2, z3, z4]) rfl (by rw [HP.out]; exact HFIN.out _ (.inr ⟨set5_bel BEL.out (Nat.le_refl _) _ _ _ _ _, argw_set5 HAR.out HZB.out _ _ _ _ _⟩) (set5_bel BEL.out (Nat.le_refl _) _ _ _ _ _) (argw_set5 HAR.out HZB.out _ _ _ _ _))
      · rw [decide_eq_false heq]
        have HEQ : Hid (¬ putR ⟨rd, wt, bi, fq, le, mo, co, tq⟩ (dq ⟨rd, wt, bi, fq, le, mo, co, tq⟩ L) = L) := Lib.hid (fun e => heq (hpr.trans e))
        clear heq hpr
        have hc : getC L = 3 := by
          unfold getC
          rw [if_neg HL0.out, ← HX0.out, HK.out]
          simp [HH.out, HEQ.out]
        have HPB := Lib.hid (fun w' hb => getp_bad hc (by omega) (w := w) w' hb)
        clear hc
        go_wp2_with fail
        exact bodyPost_ret (v := .tuple #[.agg #[.int .i64 0, .int .i64 0, .int .i64 0, .slice none 0 0, .int .i64 0], .int .i64 3]) (by simp [results, Try.results28, go_sem, z0, z1, z2, z3, z4]) rfl (by rw [HP.out]; exact HPB.out _ (by first | exact set5_bel BEL.out (Nat.le_refl _) _ _ _ _ _ | exact BEL.out))
end Go.Proofs.Ytdolgpogjnfpkaa
