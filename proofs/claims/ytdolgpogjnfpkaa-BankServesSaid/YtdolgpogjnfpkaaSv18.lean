/- Places: what is asked for is done. -/
import Derived.Test.YtdolgpogjnfpkaaSv17
import Derived.Test.YtdolgpogjnfpkaaSv7
import Derived.Test.YtdolgpogjnfpkaaSv13
import Derived.Deep.RegionHeld3
namespace Go.Proofs.Ytdolgpogjnfpkaa
set_option linter.unusedVariables false
set_option linter.unusedSimpArgs false
open Go.ChangeShapes Go.WideShapes Go.ChangeAt Go.RowKit

/-- What a bank answers to a request, and what stands in it then. -/
def doF (r : Rq) (R : Nat → List Nat) : (Int × List Nat) × (Nat → List Nat) :=
  if rightR r = false then ((3, []), R) else
  if plB R (kdB r.fc) r.ad (max r.q.toNat 1) = false then ((2, []), R) else
  if r.fc = 23 then
    if plB R 2 r.to r.vn = false then ((2, []), R) else
    ((0, (((upR R 2 (wrL r (R 2) r.to.toNat r.vn)) (kdB r.fc).toNat).drop r.ad.toNat).take (max r.q.toNat 1)), upR R 2 (wrL r (R 2) r.to.toNat r.vn))
  else
    ((0, if (fo r.fc).rd = true then (((upR R (kdB r.fc).toNat (wrL r (R (kdB r.fc).toNat) r.ad.toNat (max r.q.toNat 1))) (kdB r.fc).toNat).drop r.ad.toNat).take (max r.q.toNat 1) else []), upR R (kdB r.fc).toNat (wrL r (R (kdB r.fc).toNat) r.ad.toNat (max r.q.toNat 1)))
def DoP (B : Nat) (w : World) (p : Nat) (s : Nat → Nat) (x : (Int × List Nat) × (Nat → List Nat)) (e : Ending) (w' : World) : Prop :=
  ∃ a n c, e = .returned (.agg #[.int .i64 x.1.1, .slice a n c]) ∧ ArgW w' a n c x.1.2 ∧ Bn B w' p s x.2 ∧ Fw (bl s) w w' ∧ ∀ b off, a = some ⟨b, off, none⟩ → w.heap.size ≤ b
theorem Bn.wds {B : Nat} {w : World} {p : Nat} {s : Nat → Nat} {R : Nat → List Nat} (h : Bn B w p s R) {k f m : Nat} (hk : k < 4) (hf : f + m ≤ (R k).length) : Wds w (some ⟨s k, f, none⟩) m (((R k).drop f).take m) := by
  have hl := h.len k hk
  refine ⟨by rw [List.length_take, List.length_drop]; omega, by unfold maxLen; omega, fun v hv => h.wd k hk v (List.mem_of_mem_drop (List.mem_of_mem_take hv)), .inr ⟨s k, f, rfl, blk_ltB (h.row k hk), fun i hi => ?_⟩⟩
  rw [(h.at hk (i := f + i) (by omega)).1]
  congr 3
  simp [List.getD, List.getElem?_take_of_lt hi, List.getElem?_drop]
theorem kd_rng (fc : Int) : 0 ≤ kdB fc ∧ kdB fc < 4 := by unfold kdB; repeat' split
                                                          all_goals omega
theorem plB_fit {R : Nat → List Nat} {k f : Int} {m : Nat} (h : plB R k f m = true) : 0 ≤ f ∧ f.toNat + m ≤ (R k.toNat).length ∧ k.toNat < 4 := by
  unfold plB at h
  simp only [decide_eq_true_eq] at h
  omega
theorem two_b {B y : Nat} {w W : World} (h : Below B w W) (hy : B ≤ y) (u v : Value) : Below B w ((W.setCell ⟨y, 0, none⟩ u).setCell ⟨y, 1, none⟩ v) := (h.setCell hy _).setCell hy _
theorem two_o (W : World) {y k : Nat} (hk : k ≠ y) (u v : Value) : ((W.setCell ⟨y, 0, none⟩ u).setCell ⟨y, 1, none⟩ v).heap[k]? = W.heap[k]? := (Below.heap_setCell _ _ _ _ hk).trans (Below.heap_setCell _ _ _ _ hk)
theorem Fw.two {l : List Nat} {w W : World} (h : Fw l w W) {y : Nat} (hy : w.heap.size ≤ y) (u v : Value) : Fw l w ((W.setCell ⟨y, 0, none⟩ u).setCell ⟨y, 1, none⟩ v) :=
  ⟨h.os, h.tape, h.output, by simpa using h.size, fun k hk hl => (two_o W (by omega) u v).trans (h.block k hk hl)⟩
theorem Bn.two {B : Nat} {W : World} {p : Nat} {s : Nat → Nat} {R : Nat → List Nat} (h : Bn B W p s R) {y : Nat} (hp : p ≠ y) (hs : ∀ k, k < 4 → s k ≠ y) (u v : Value) : Bn B ((W.setCell ⟨y, 0, none⟩ u).setCell ⟨y, 1, none⟩ v) p s R :=
  ⟨h.hp, (two_o W hp u v).trans h.blk, h.hs, h.ne, fun k hk => (two_o W (hs k hk) u v).trans (h.row k hk), h.len, h.wd⟩
theorem argw_two {W : World} {a : Option Addr} {n c : Nat} {V : List Nat} (h : ArgW W a n c V) {y : Nat} (hy : ∀ b off, a = some ⟨b, off, none⟩ → b ≠ y) (u v : Value) : ArgW ((W.setCell ⟨y, 0, none⟩ u).setCell ⟨y, 1, none⟩ v) a n c V := by
  refine ⟨⟨h.row.ln, h.row.le, h.row.by', ?_⟩, h.nil, h.le, h.mx⟩
  rcases h.row.at' with z | ⟨b, off, e, hlt, hc⟩
  · exact .inl z
  · exact .inr ⟨b, off, e, by simpa using hlt, fun i hi => (World.cell?_of_block (a := ⟨b, off + i, none⟩) (two_o W (hy b off e) u v)).trans (hc i hi)⟩
theorem bl_not {B : Nat} {w : World} {p : Nat} {s : Nat → Nat} {R : Nat → List Nat} (h : Bn B w p s R) {y : Nat} (hy : w.heap.size ≤ y) : y ∉ bl s := by
  simp only [bl, List.mem_cons, List.not_mem_nil, or_false]
  have h0 := blk_ltB (h.row 0 (by omega))
  have h1 := blk_ltB (h.row 1 (by omega))
  have h2 := blk_ltB (h.row 2 (by omega))
  have h3 := blk_ltB (h.row 3 (by omega))
  omega
theorem argW_noB (W : World) : ArgW W none 0 0 [] := ⟨⟨rfl, Nat.zero_le _, by simp, .inl rfl⟩, fun _ => ⟨rfl, rfl⟩, Nat.le_refl _, Nat.zero_le _⟩
theorem wrL_len (r : Rq) {L : List Nat} {t n : Nat} (h : t + n ≤ L.length) : (wrL r L t n).length = L.length := by
  unfold wrL
  split
  · simp
  · exact length_splice _ _ _ (by rw [List.length_take]; have := Nat.min_le_left n r.V.length; omega)
theorem splice_rep (n : Nat) (V : List Nat) (hV : V.length = n) : splice (List.replicate n 0) 0 (V.take n) = V := by
  rw [List.take_of_length_le (by omega)]
  simp [splice, hV]
set_option maxRecDepth 100000 in
set_option maxHeartbeats 8000000 in
theorem do_any {B : Nat} {w : World} {p : Nat} {s : Nat → Nat} {R : Nat → List Nat} (h : Bn B w p s R) (r : Rq) (hr : r.ok w) :
    Calls Try.prog 17 #[.pointer (some ⟨p, 0, none⟩), rv r] w (DoP B w p s (doF r R)) := by
  obtain ⟨P, hP⟩ : ∃ P, P = (DoP B w p s (doF r R) : Ending → World → Prop) := ⟨_, rfl⟩
  rw [← hP]
  have HRI := Lib.hid (fun W (hb : Below w.heap.size w W) => right_any r W (hr.below hb))
  have FIN : Hid (∀ W a n c, ArgW W a n c (doF r R).1.2 → Bn B W p s (doF r R).2 → Fw (bl s) w W → (∀ b off, a = some ⟨b, off, none⟩ → w.heap.size ≤ b) → P (.returned (.agg #[.int .i64 (doF r R).1.1, .slice a n c])) W) := Lib.hid (fun W a n c h1 h2 h3 h4 => by
    rw [hP]; exact ⟨a, n, c, rfl, h1, h2, h3, h4⟩)
  have HWF : Hid ((Lit.int .i64 r.fc).wf = true) := Lib.hid hr.fc
  have HFT : Hid (rightR r = true → 0 ≤ r.q ∧ r.q ≤ 2000 ∧ r.vn ≤ 2000 ∧ (r.fc = 22 → r.V.length = 2) ∧ 0 ≤ r.to ∧ r.to < 65536 ∧ (r.fc = 23 → 1 ≤ r.vn ∧ (fo r.fc).rd = true) ∧ r.ad < 65536) := Lib.hid (fun hh => by
    have h1 := right_facts hh
    have h2 := fit_of (rt_of hh).hh
    have h3 := (formOf_small (rt_of hh).k).mo
    have h4 := hr.arg.row.ln
    refine ⟨h1.2.2.2.1, h1.2.2.2.2, by have := h2.1.vmo; omega, fun e => ?_, h2.2.2.2.1, h2.2.2.2.2.1, fun e => ?_, h2.2.2.1⟩
    · have h5 : fo r.fc = ⟨false, true, false, 0, 2, 2, false, false⟩ := by rw [e]; rfl
      have v1 := h2.1.vle
      have v2 := h2.1.vmo
      rw [h5] at v1 v2
      simp at v1 v2
      omega
    · have h5 : fo r.fc = ⟨true, true, false, 125, 1, 121, true, true⟩ := by rw [e]; rfl
      have v1 := h2.1.vle
      rw [h5] at v1 ⊢
      simp at v1
      exact ⟨by omega, rfl⟩)
  have H := Lib.hid h
  have HR := Lib.hid hr
  obtain ⟨n, hn⟩ : ∃ n, n = max r.q.toNat 1 := ⟨_, rfl⟩
  have HN := Lib.hid hn
  obtain ⟨W, hW⟩ : ∃ W, W = (w.alloc (.cells #[.int .i64 r.fc, .int .i64 r.ad, .int .i64 r.q, .slice r.vs r.vn r.vc, .int .i64 r.to] 32 (0, 0))).alloc (.cells #[.int .i64 0, .slice none 0 0] 40 (0, 0)) := ⟨_, rfl⟩
  have k1 := alloc_bq w (.cells #[.int .i64 r.fc, .int .i64 r.ad, .int .i64 r.q, .slice r.vs r.vn r.vc, .int .i64 r.to] 32 (0, 0))
  have k2 := alloc_bq (w.alloc (.cells #[.int .i64 r.fc, .int .i64 r.ad, .int .i64 r.q, .slice r.vs r.vn r.vc, .int .i64 r.to] 32 (0, 0))) (.cells #[.int .i64 0, .slice none 0 0] 40 (0, 0))
  have bw := k1.trans (k2.mono k1.size)
  have hx := low_of k2 (heap_alloc_new w (.cells #[.int .i64 r.fc, .int .i64 r.ad, .int .i64 r.q, .slice r.vs r.vn r.vc, .int .i64 r.to] 32 (0, 0)))
  have hy := heap_alloc_new (w.alloc (.cells #[.int .i64 r.fc, .int .i64 r.ad, .int .i64 r.q, .slice r.vs r.vn r.vc, .int .i64 r.to] 32 (0, 0))) (.cells #[.int .i64 0, .slice none 0 0] 40 (0, 0))
  rw [World.size_alloc] at hy
  rw [← hW] at bw hx hy
  have BW := Lib.hid bw
  have X0 := Lib.hid hx
  have Y0 := Lib.hid hy
  have HW := Lib.hid hW
  obtain ⟨rx, hrx⟩ : ∃ b, b = rightR r := ⟨_, rfl⟩
  rw [← hrx] at HRI HFT
  have HRX := Lib.hid hrx
  have F3 : Hid (rx = false → ∀ W a n c, ArgW W a n c [] → Bn B W p s R → Fw (bl s) w W → (∀ b off, a = some ⟨b, off, none⟩ → w.heap.size ≤ b) → P (.returned (.agg #[.int .i64 3, .slice a n c])) W) := Lib.hid (fun e => by
    have hd : doF r R = ((3, []), R) := by unfold doF; rw [← HRX.out, if_pos e]
    have := FIN.out; rw [hd] at this; exact this)
  obtain ⟨b1, hb1⟩ : ∃ b, b = plB R (kdB r.fc) r.ad n := ⟨_, rfl⟩
  have HB1 := Lib.hid hb1
  have F2 : Hid (rx = true → b1 = false → ∀ W a n c, ArgW W a n c [] → Bn B W p s R → Fw (bl s) w W → (∀ b off, a = some ⟨b, off, none⟩ → w.heap.size ≤ b) → P (.returned (.agg #[.int .i64 2, .slice a n c])) W) := Lib.hid (fun e1 e2 => by
    have hd : doF r R = ((2, []), R) := by unfold doF; rw [← HRX.out, e1, ← HN.out, ← HB1.out, e2]; simp
    have := FIN.out; rw [hd] at this; exact this)
  have FS : Hid (rx = true → b1 = true → r.fc ≠ 23 → ∀ W a n2 c, ArgW W a n2 c (if (fo r.fc).rd = true then (((upR R (kdB r.fc).toNat (wrL r (R (kdB r.fc).toNat) r.ad.toNat n)) (kdB r.fc).toNat).drop r.ad.toNat).take n else []) → Bn B W p s (upR R (kdB r.fc).toNat (wrL r (R (kdB r.fc).toNat) r.ad.toNat n)) → Fw (bl s) w W → (∀ b off, a = some ⟨b, off, none⟩ → w.heap.size ≤ b) → P (.returned (.agg #[.int .i64 0, .slice a n2 c])) W) := Lib.hid (fun e1 e2 e3 => by
    have hd : doF r R = ((0, if (fo r.fc).rd = true then (((upR R (kdB r.fc).toNat (wrL r (R (kdB r.fc).toNat) r.ad.toNat n)) (kdB r.fc).toNat).drop r.ad.toNat).take n else []), upR R (kdB r.fc).toNat (wrL r (R (kdB r.fc).toNat) r.ad.toNat n)) := by
      unfold doF; rw [← HRX.out, e1, ← HN.out, ← HB1.out, e2, if_neg (by simp), if_neg (by simp), if_neg e3]
    have := FIN.out; rw [hd] at this; exact this)
  obtain ⟨b2, hb2⟩ : ∃ b, b = plB R 2 r.to r.vn := ⟨_, rfl⟩
  have HB2 := Lib.hid hb2
  have FT2 : Hid (rx = true → b1 = true → r.fc = 23 → b2 = false → ∀ W a n c, ArgW W a n c [] → Bn B W p s R → Fw (bl s) w W → (∀ b off, a = some ⟨b, off, none⟩ → w.heap.size ≤ b) → P (.returned (.agg #[.int .i64 2, .slice a n c])) W) := Lib.hid (fun e1 e2 e3 e4 => by
    have hd : doF r R = ((2, []), R) := by unfold doF; rw [← HRX.out, e1, ← HN.out, ← HB1.out, e2, if_neg (by simp), if_neg (by simp), if_pos e3, ← HB2.out, e4]; simp
    have := FIN.out; rw [hd] at this; exact this)
  have FT : Hid (rx = true → b1 = true → r.fc = 23 → b2 = true → ∀ W a n2 c, ArgW W a n2 c (((upR R 2 (wrL r (R 2) r.to.toNat r.vn)) (kdB r.fc).toNat).drop r.ad.toNat |>.take n) → Bn B W p s (upR R 2 (wrL r (R 2) r.to.toNat r.vn)) → Fw (bl s) w W → (∀ b off, a = some ⟨b, off, none⟩ → w.heap.size ≤ b) → P (.returned (.agg #[.int .i64 0, .slice a n2 c])) W) := Lib.hid (fun e1 e2 e3 e4 => by
    have hd : doF r R = ((0, (((upR R 2 (wrL r (R 2) r.to.toNat r.vn)) (kdB r.fc).toNat).drop r.ad.toNat).take n), upR R 2 (wrL r (R 2) r.to.toNat r.vn)) := by
      unfold doF; rw [← HRX.out, e1, ← HN.out, ← HB1.out, e2, if_neg (by simp), if_neg (by simp), if_pos e3, ← HB2.out, e4, if_neg (by simp)]
    have := FIN.out; rw [hd] at this; exact this)
  have QK := Lib.hid (fun q => kind_any r.fc (W.drewN q))
  obtain ⟨c0, c1, c2, c3, c4⟩ := cells5 X0.out
  obtain ⟨y0, y1⟩ := cells2q Y0.out
  clear hP h hr hn k1 k2 bw hx hy hW hrx hb1 hb2
  obtain ⟨fc, ad, q, vs, vn, vc, V, rto⟩ := r
  simp only [rv] at *
  go_enter Try.func17, Try.ntmps17
  go_upto_region 1 with fail
  rw [← HW.out]
  go_wp2_with fail
  refine (HRI.out W BW.out).mono ?_
  rintro e w1 ⟨rfl, z1⟩
  have B1 := Lib.hid (BW.out.trans (Below.mono z1 BW.out.size))
  have X1 := Lib.hid (low_of z1 X0.out)
  have Y1 := Lib.hid (low_of z1 Y0.out)
  have N1 := Lib.hid (H.out.below (BW.out.trans (Below.mono z1 BW.out.size)))
  clear z1 c0 c1 c2 c3 c4 y0 y1
  obtain ⟨c0, c1, c2, c3, c4⟩ := cells5 X1.out
  obtain ⟨y0, y1⟩ := cells2q Y1.out
  have yf : ∀ i, w1.frozen? ⟨w.heap.size + 1, i, none⟩ = false := fun i => froz (i := i) Y1.out
  have yf0 := yf 0
  have yf1 := yf 1
  clear yf
  cases rx with
  | false =>
    have BE := Lib.hid (two_b B1.out (Nat.le_succ _) (.int .i64 3) (.slice none 0 0))
    go_wp2_with fail
    exact bodyPost_ret (v := .agg #[.int .i64 3, .slice none 0 0]) (by simp [results, Try.results17, go_sem, y0, y1]) rfl (F3.out (by trivial) _ none 0 0 (argW_noB _) (H.out.below BE.out) (Fw.of_below BE.out) (fun b off e => by cases e))
  | true =>
  obtain ⟨hq0, hq1, hvn, h22, ht0, ht1, h23, had⟩ := HFT.out (by trivial)
  have hmx : (if q < 1 then 1 else q) = (n : Int) := by have := HN.out; split <;> omega
  have QP := Lib.hid (fun i => places_any (N1.out.below (below_drewN (Below.refl _ _) i)) (kdB fc) ad n (by have := HN.out; omega) (by have := HN.out; omega) (by omega))
  have QK1 := Lib.hid (fun i => kind_any fc (w1.drewN i))
  unfold PlP at QP
  rw [← HB1.out] at QP
  clear HFT F3 HRI QK
  go_upto_region 3 with fail
  go_quiet (first | (go_at_call 35; exact Calls.quiet_of_same (QK1.out _)) | (go_at_call 32; exact Calls.quiet_of_same (QP.out _)))
  generalize hW2 : w1.drewN _ = w2
  have g2 : Below w1.heap.size w1 w2 := by rw [← hW2]; exact below_drewN (Below.refl _ _) _
  have B2 := Lib.hid (B1.out.trans (g2.mono B1.out.size))
  have X2 := Lib.hid (low_of g2 X1.out)
  have Y2 := Lib.hid (low_of g2 Y1.out)
  have N2 := Lib.hid (N1.out.below g2)
  clear hW2 g2 c0 c1 c2 c3 c4 y0 y1 yf0 yf1 QP QK1 hmx
  obtain ⟨c0, c1, c2, c3, c4⟩ := cells5 X2.out
  obtain ⟨y0, y1⟩ := cells2q Y2.out
  have yf : ∀ i, w2.frozen? ⟨w.heap.size + 1, i, none⟩ = false := fun i => froz (i := i) Y2.out
  have yf0 := yf 0
  have yf1 := yf 1
  clear yf
  have F2 := Lib.hid (F2.out (by trivial))
  cases b1 with
  | false =>
    simp only [Bool.false_eq_true, if_false] at *
    have BE := Lib.hid (two_b B2.out (Nat.le_succ _) (.int .i64 2) (.slice none 0 0))
    go_wp2_with fail
    exact bodyPost_ret (v := .agg #[.int .i64 2, .slice none 0 0]) (by simp [results, Try.results17, go_sem, y0, y1]) rfl (F2.out (by trivial) _ none 0 0 (argW_noB _) (H.out.below BE.out) (Fw.of_below BE.out) (fun b off e => by cases e))
  | true =>
  simp only [if_true]
  obtain ⟨ha0, hfit, hk4⟩ := plB_fit HB1.out.symm
  obtain ⟨k, hk⟩ : ∃ k, k = (kdB fc).toNat := ⟨_, rfl⟩
  have hkd : kdB fc = (k : Int) := by have := kd_rng fc; omega
  obtain ⟨f, rfl⟩ : ∃ j : Nat, ad = (j : Int) := ⟨ad.toNat, by omega⟩
  rw [Int.toNat_natCast] at hfit ⊢
  rw [← hk] at hfit hk4 ⊢
  have HK := Lib.hid hk
  have HKD := Lib.hid hkd
  have n1 : 1 ≤ n := by have := HN.out; omega
  clear hk hkd
  by_cases hs : fc = 23
  · have e23 : (fc == 23) = true := by simpa using hs
    obtain ⟨hv1, rd23⟩ := h23 hs
    have RD23 := Lib.hid rd23
    obtain ⟨tn, rfl⟩ : ∃ j : Nat, rto = (j : Int) := ⟨rto.toNat, by omega⟩
    have QP2 := places_any N2.out 2 (tn : Int) vn hv1 (by omega) (by omega)
    unfold PlP at QP2
    rw [← HB2.out] at QP2
    have FS2 := Lib.hid (FT.out (by trivial) (by trivial) hs)
    have FX2 := Lib.hid (FT2.out (by trivial) (by trivial) hs)
    rw [← HK.out, Int.toNat_natCast, Int.toNat_natCast] at FS2
    have HVN := Lib.hid hvn
    clear F2 FS FT FT2 rd23
    cases b2 with
    | false =>
      have FX3 := Lib.hid (FX2.out (by trivial))
      clear FX2 FS2
      simp only [Bool.false_eq_true, if_false] at QP2
      go_wp2_with fail
      refine QP2.mono ?_
      rintro e w3 ⟨rfl, rfl⟩
      have BE := Lib.hid (two_b B2.out (Nat.le_succ _) (.int .i64 2) (.slice none 0 0))
      go_wp2_with fail
      exact bodyPost_ret (v := .agg #[.int .i64 2, .slice none 0 0]) (by simp [results, Try.results17, go_sem, y0, y1]) rfl (FX3.out _ none 0 0 (argW_noB _) (H.out.below BE.out) (Fw.of_below BE.out) (fun b off e => by cases e))
    | true =>
    have FS3 := Lib.hid (FS2.out (by trivial))
    clear FX2 FS2
    simp only [if_true, Int.toNat_natCast, show (2 : Int).toNat = 2 from rfl] at QP2
    obtain ⟨_, fit2, _⟩ := plB_fit HB2.out.symm
    rw [Int.toNat_natCast, show (2 : Int).toNat = 2 from rfl] at fit2
    have WR := Lib.hid (write_any N2.out (k := 2) (by omega) hv1 fit2 vn ⟨fc, (f : Int), q, vs, vn, vc, V, (tn : Int)⟩ (HR.out.below B2.out) h22 (by show vn ≤ 100000; omega))
    have WLEN : Hid ((upR R 2 (wrL ⟨fc, (f : Int), q, vs, vn, vc, V, (tn : Int)⟩ (R 2) tn vn) k).length = (R k).length) := Lib.hid (by
      unfold upR
      split
      · rename_i e; rw [e]; exact wrL_len _ fit2
      · rfl)
    clear hs
    go_wp2_with fail
    refine QP2.mono ?_
    rintro e w3 ⟨rfl, rfl⟩
    go_wp2_with fail
    refine WR.out.mono ?_
    rintro e w3 ⟨rfl, n3, f3⟩
    have hy1 := bl_not H.out (y := w.heap.size) (Nat.le_refl _)
    have hy2 := bl_not H.out (y := w.heap.size + 1) (Nat.le_succ _)
    have X3 := Lib.hid ((f3.block _ (blk_ltB X2.out) hy1).trans X2.out)
    have Y3 := Lib.hid ((f3.block _ (blk_ltB Y2.out) hy2).trans Y2.out)
    have F3 := Lib.hid ((Fw.of_below (l := bl s) B2.out).trans f3)
    have N3 := Lib.hid n3
    clear f3 n3 c0 c1 c2 c3 c4 y0 y1 yf0 yf1 hy1 hy2
    obtain ⟨c0, c1, c2, c3, c4⟩ := cells5 X3.out
    go_wp2_with fail
    refine (reads_any fc w3 HWF.out).mono ?_
    rintro e w4 ⟨rfl, z4⟩
    have N4 := Lib.hid (N3.out.below z4)
    have Y4 := Lib.hid (low_of z4 Y3.out)
    have F4 := Lib.hid (F3.out.trans (Fw.of_below z4))
    have S4 := Lib.hid F4.out.size
    clear z4 c0 c1 c2 c3 c4
    obtain ⟨y0, y1⟩ := cells2q Y4.out
    have yf0 : w4.frozen? ⟨w.heap.size + 1, 0, none⟩ = false := froz Y4.out
    have yf1 : w4.frozen? ⟨w.heap.size + 1, 1, none⟩ = false := froz Y4.out
    have hpy : p ≠ w.heap.size + 1 := by have := blk_ltB H.out.blk; omega
    have hsy : ∀ j, j < 4 → s j ≠ w.heap.size + 1 := fun j hj => by have := blk_ltB (H.out.row j hj); omega
    have HPY := Lib.hid hpy
    have HSY := Lib.hid hsy
    have y5lt := blk_ltB Y4.out
    clear hpy hsy
    cases hrd : (fo fc).rd with
    | false => exact absurd hrd (by rw [RD23.out]; simp)
    | true =>
      have W4 := Lib.hid (N4.out.wds hk4 (f := f) (m := n) (by rw [WLEN.out]; exact hfit))
      have hvl := W4.out.ln
      obtain ⟨V9, hV9⟩ : ∃ V8, V8 = (((upR R 2 (wrL ⟨fc, (f : Int), q, vs, vn, vc, V, (tn : Int)⟩ (R 2) tn vn)) k).drop f).take n := ⟨_, rfl⟩
      rw [← hV9] at W4 hvl
      have HV9 := Lib.hid hV9
      have HVL := Lib.hid hvl
      have HRD := Lib.hid hrd
      have hn9 : n ≤ 256 := by have := H.out.len k hk4; omega
      have hmk := make_w n (by omega) w4
      have hal := alloc_bq w4 (.cells (wv (List.replicate n 0)).toArray 34 (0, 0))
      obtain ⟨w5, hw5⟩ : ∃ W, W = w4.alloc (.cells (wv (List.replicate n 0)).toArray 34 (0, 0)) := ⟨_, rfl⟩
      rw [← hw5] at hmk hal
      have hg5 : w5.heap[w4.heap.size]? = some (.cells (wv (List.replicate n 0)).toArray 34 (0, 0)) := by rw [hw5]; exact heap_alloc_new w4 _
      have G5 := Lib.hid hg5
      have W5 := Lib.hid (W4.out.below hal)
      have N5 := Lib.hid (N4.out.below hal)
      have Y5 := Lib.hid (low_of hal Y4.out)
      have F5 := Lib.hid (F4.out.trans (Fw.of_below hal))
      clear hw5 hg5 hal hV9 hvl hrd y0 y1 yf0 yf1
      go_wp2_with (refine wpList_copy_w rfl (.tmp 63) (.tmp 64) rfl w4.heap.size 0 n n _ n n rfl rfl (List.replicate n 0) G5.out V9 W5.out (by simp) ?_)
      intro w6 hg6 f6
      rw [splice_rep n V9 HVL.out] at hg6
      have nb : w4.heap.size ≠ p ∧ ∀ j, j < 4 → s j ≠ w4.heap.size := ⟨by have := blk_ltB N4.out.blk; omega, fun j hj => by have := blk_ltB (N4.out.row j hj); omega⟩
      have N6 : Bn B w6 p s (upR R 2 (wrL ⟨fc, (f : Int), q, vs, vn, vc, V, (tn : Int)⟩ (R 2) tn vn)) := ⟨N5.out.hp, (f6.block _ (blk_ltB N5.out.blk) (by simpa using nb.1.symm)).trans N5.out.blk, N5.out.hs, N5.out.ne, fun j hj => (f6.block _ (blk_ltB (N5.out.row j hj)) (by simpa using nb.2 j hj)).trans (N5.out.row j hj), N5.out.len, N5.out.wd⟩
      have Y6 := (f6.block _ (blk_ltB Y5.out) (by simp; omega)).trans Y5.out
      obtain ⟨y0, y1⟩ := cells2q Y6
      have yf0 : w6.frozen? ⟨w.heap.size + 1, 0, none⟩ = false := froz Y6
      have yf1 : w6.frozen? ⟨w.heap.size + 1, 1, none⟩ = false := froz Y6
      have F6 : Fw (bl s) w w6 := ⟨f6.os.trans F5.out.os, f6.tape.trans F5.out.tape, f6.output.trans F5.out.output, Nat.le_trans F5.out.size f6.size, fun k hk hl => (f6.block k (Nat.lt_of_lt_of_le hk F5.out.size) (by have := S4.out; simp; omega)).trans (F5.out.block k hk hl)⟩
      have A6 : ArgW w6 (some ⟨w4.heap.size, 0, none⟩) n n V9 := ⟨⟨HVL.out, by unfold maxLen; omega, W5.out.by', .inr ⟨_, 0, rfl, blk_ltB hg6, fun i hi => by
        rw [Nat.zero_add]; simp only [World.cell?, hg6]; simpa using wv_get V9 i (by have := HVL.out; omega)⟩⟩, (fun e => by cases e), Nat.le_refl _, by unfold maxLen; omega⟩
      have FN := FS3.out
      rw [← HV9.out] at FN
      have FF := Lib.hid (FN _ _ _ _ (argw_two A6 (y := w.heap.size + 1) (fun b off e => by simp only [Option.some.injEq, Addr.mk.injEq, and_true] at e; omega) (.int .i64 0) (.slice (some ⟨w4.heap.size, 0, none⟩) n n)) (N6.two HPY.out HSY.out _ _) (F6.two (Nat.le_succ _) _ _) (fun b off e => by simp only [Option.some.injEq, Addr.mk.injEq, and_true] at e; have := S4.out; omega))
      clear hg6 f6 N6 Y6 F6 A6 nb
      go_wp2_with fail
      exact bodyPost_ret (v := .agg #[.int .i64 0, .slice (some ⟨w4.heap.size, 0, none⟩) n n]) (by simp [results, Try.results17, go_sem, y0, y1]) rfl FF.out
  · have e23 : (fc == 23) = false := by simpa using hs
    have WR := Lib.hid (write_any N2.out hk4 n1 hfit n ⟨fc, (f : Int), q, vs, vn, vc, V, rto⟩ (HR.out.below B2.out) h22 (by show vn ≤ 100000; omega))
    have FS2 := Lib.hid (FS.out (by trivial) (by trivial) hs)
    rw [← HK.out, Int.toNat_natCast] at FS2
    clear FS
    have WLEN : Hid ((wrL ⟨fc, (f : Int), q, vs, vn, vc, V, rto⟩ (R k) f n).length = (R k).length) := Lib.hid (wrL_len _ hfit)
    clear F2 FT FT2 hs
    go_wp2_with fail
    refine WR.out.mono ?_
    rintro e w3 ⟨rfl, n3, f3⟩
    have hy1 := bl_not H.out (y := w.heap.size) (Nat.le_refl _)
    have hy2 := bl_not H.out (y := w.heap.size + 1) (Nat.le_succ _)
    have X3 := Lib.hid ((f3.block _ (blk_ltB X2.out) hy1).trans X2.out)
    have Y3 := Lib.hid ((f3.block _ (blk_ltB Y2.out) hy2).trans Y2.out)
    have F3 := Lib.hid ((Fw.of_below (l := bl s) B2.out).trans f3)
    have N3 := Lib.hid n3
    clear f3 n3 c0 c1 c2 c3 c4 y0 y1 yf0 yf1 hy1 hy2
    obtain ⟨c0, c1, c2, c3, c4⟩ := cells5 X3.out
    go_wp2_with fail
    refine (reads_any fc w3 HWF.out).mono ?_
    rintro e w4 ⟨rfl, z4⟩
    have N4 := Lib.hid (N3.out.below z4)
    have Y4 := Lib.hid (low_of z4 Y3.out)
    have F4 := Lib.hid (F3.out.trans (Fw.of_below z4))
    have S4 := Lib.hid F4.out.size
    clear z4 c0 c1 c2 c3 c4
    obtain ⟨y0, y1⟩ := cells2q Y4.out
    have yf0 : w4.frozen? ⟨w.heap.size + 1, 0, none⟩ = false := froz Y4.out
    have yf1 : w4.frozen? ⟨w.heap.size + 1, 1, none⟩ = false := froz Y4.out
    have hpy : p ≠ w.heap.size + 1 := by have := blk_ltB H.out.blk; omega
    have hsy : ∀ j, j < 4 → s j ≠ w.heap.size + 1 := fun j hj => by have := blk_ltB (H.out.row j hj); omega
    have HPY := Lib.hid hpy
    have HSY := Lib.hid hsy
    have y5lt := blk_ltB Y4.out
    clear hpy hsy
    cases hrd : (fo fc).rd with
    | false =>
      have FN := FS2.out
      rw [hrd, if_neg (by simp)] at FN
      have FF := Lib.hid (FN _ none 0 0 (argw_two (argW_noB w4) (y := w.heap.size + 1) (fun b off e => by cases e) (.int .i64 0) (.slice none 0 0)) (N4.out.two HPY.out HSY.out _ _) (F4.out.two (Nat.le_succ _) _ _) (fun b off e => by cases e))
      clear hrd
      go_wp2_with fail
      exact bodyPost_ret (v := .agg #[.int .i64 0, .slice none 0 0]) (by simp [results, Try.results17, go_sem, y0, y1]) rfl FF.out
    | true =>
      have W4 := Lib.hid (N4.out.wds hk4 (f := f) (m := n) (by rw [show ((upR R k (wrL ⟨fc, (f : Int), q, vs, vn, vc, V, rto⟩ (R k) f n)) k) = wrL ⟨fc, (f : Int), q, vs, vn, vc, V, rto⟩ (R k) f n by simp [upR]]; rw [WLEN.out]; exact hfit))
      have hvl := W4.out.ln
      obtain ⟨V9, hV9⟩ : ∃ V8, V8 = (((upR R k (wrL ⟨fc, (f : Int), q, vs, vn, vc, V, rto⟩ (R k) f n)) k).drop f).take n := ⟨_, rfl⟩
      rw [← hV9] at W4 hvl
      have HV9 := Lib.hid hV9
      have HVL := Lib.hid hvl
      have HRD := Lib.hid hrd
      have hn9 : n ≤ 256 := by have := H.out.len k hk4; omega
      have hmk := make_w n (by omega) w4
      have hal := alloc_bq w4 (.cells (wv (List.replicate n 0)).toArray 34 (0, 0))
      obtain ⟨w5, hw5⟩ : ∃ W, W = w4.alloc (.cells (wv (List.replicate n 0)).toArray 34 (0, 0)) := ⟨_, rfl⟩
      rw [← hw5] at hmk hal
      have hg5 : w5.heap[w4.heap.size]? = some (.cells (wv (List.replicate n 0)).toArray 34 (0, 0)) := by rw [hw5]; exact heap_alloc_new w4 _
      have G5 := Lib.hid hg5
      have W5 := Lib.hid (W4.out.below hal)
      have N5 := Lib.hid (N4.out.below hal)
      have Y5 := Lib.hid (low_of hal Y4.out)
      have F5 := Lib.hid (F4.out.trans (Fw.of_below hal))
      clear hw5 hg5 hal hV9 hvl hrd y0 y1 yf0 yf1
      go_wp2_with (refine wpList_copy_w rfl (.tmp 63) (.tmp 64) rfl w4.heap.size 0 n n _ n n rfl rfl (List.replicate n 0) G5.out V9 W5.out (by simp) ?_)
      intro w6 hg6 f6
      rw [splice_rep n V9 HVL.out] at hg6
      have nb : w4.heap.size ≠ p ∧ ∀ j, j < 4 → s j ≠ w4.heap.size := ⟨by have := blk_ltB N4.out.blk; omega, fun j hj => by have := blk_ltB (N4.out.row j hj); omega⟩
      have N6 : Bn B w6 p s (upR R k (wrL ⟨fc, (f : Int), q, vs, vn, vc, V, rto⟩ (R k) f n)) := ⟨N5.out.hp, (f6.block _ (blk_ltB N5.out.blk) (by simpa using nb.1.symm)).trans N5.out.blk, N5.out.hs, N5.out.ne, fun j hj => (f6.block _ (blk_ltB (N5.out.row j hj)) (by simpa using nb.2 j hj)).trans (N5.out.row j hj), N5.out.len, N5.out.wd⟩
      have Y6 := (f6.block _ (blk_ltB Y5.out) (by simp; omega)).trans Y5.out
      obtain ⟨y0, y1⟩ := cells2q Y6
      have yf0 : w6.frozen? ⟨w.heap.size + 1, 0, none⟩ = false := froz Y6
      have yf1 : w6.frozen? ⟨w.heap.size + 1, 1, none⟩ = false := froz Y6
      have F6 : Fw (bl s) w w6 := ⟨f6.os.trans F5.out.os, f6.tape.trans F5.out.tape, f6.output.trans F5.out.output, Nat.le_trans F5.out.size f6.size, fun k hk hl => (f6.block k (Nat.lt_of_lt_of_le hk F5.out.size) (by have := S4.out; simp; omega)).trans (F5.out.block k hk hl)⟩
      have A6 : ArgW w6 (some ⟨w4.heap.size, 0, none⟩) n n V9 := ⟨⟨HVL.out, by unfold maxLen; omega, W5.out.by', .inr ⟨_, 0, rfl, blk_ltB hg6, fun i hi => by
        rw [Nat.zero_add]; simp only [World.cell?, hg6]; simpa using wv_get V9 i (by have := HVL.out; omega)⟩⟩, (fun e => by cases e), Nat.le_refl _, by unfold maxLen; omega⟩
      have FN := FS2.out
      rw [HRD.out, if_pos rfl, ← HV9.out] at FN
      have FF := Lib.hid (FN _ _ _ _ (argw_two A6 (y := w.heap.size + 1) (fun b off e => by simp only [Option.some.injEq, Addr.mk.injEq, and_true] at e; omega) (.int .i64 0) (.slice (some ⟨w4.heap.size, 0, none⟩) n n)) (N6.two HPY.out HSY.out _ _) (F6.two (Nat.le_succ _) _ _) (fun b off e => by simp only [Option.some.injEq, Addr.mk.injEq, and_true] at e; have := S4.out; omega))
      clear hg6 f6 N6 Y6 F6 A6 nb
      go_wp2_with fail
      exact bodyPost_ret (v := .agg #[.int .i64 0, .slice (some ⟨w4.heap.size, 0, none⟩) n n]) (by simp [results, Try.results17, go_sem, y0, y1]) rfl FF.out
end Go.Proofs.Ytdolgpogjnfpkaa
/- Places: Serve. -/
namespace Go.Proofs.Ytdolgpogjnfpkaa
set_option linter.unusedVariables false
set_option linter.unusedSimpArgs false
open Go.ChangeShapes Go.WideShapes Go.ChangeAt Go.RowKit

theorem getq_z {L : List Nat} (hc : ¬ getC L = 0) : getQ L = zq := by unfold getQ; rw [if_neg hc]
theorem wf_i64 {n : Int} (h1 : -9223372036854775808 ≤ n) (h2 : n ≤ 9223372036854775807) : (Lit.int .i64 n).wf = true := by
  simp [Lit.wf, IntKind.min, IntKind.max, IntKind.signed, IntKind.bits]; omega
theorem Rq.ok.fw {r : Rq} {W W' : World} {l : List Nat} (h : r.ok W) (f : Fw l W W') (hf : ∀ b off, r.vs = some ⟨b, off, none⟩ → b ∉ l) : r.ok W' := by
  refine ⟨⟨⟨h.arg.row.ln, h.arg.row.le, h.arg.row.by', ?_⟩, h.arg.nil, h.arg.le, h.arg.mx⟩, h.fc, h.ad, h.q, h.to⟩
  rcases h.arg.row.at' with z | ⟨b, off, e, hlt, hc⟩
  · exact .inl z
  · exact .inr ⟨b, off, e, Nat.lt_of_lt_of_le hlt f.size, fun i hi => (World.cell?_of_block (a := ⟨b, off + i, none⟩) (f.block b hlt (hf b off e))).trans (hc i hi)⟩
theorem getQ_ok {L : List Nat} {w : World} {vs : Option Addr} {vn vc : Nat} (h : ArgW w vs vn vc (getQ L).V) (hb : ∀ b ∈ L, b < 256) : (wsl (getQ L) vs vn vc).ok w := by
  by_cases hc : getC L = 0
  · have hq : getQ L = dq (fo ((L.getD 0 0 : Nat) : Int)) L := by unfold getQ; rw [if_pos hc]
    have hl := getN_lt (fo ((L.getD 0 0 : Nat) : Int)) L hb
    have h0 := getD_lt hb 0
    refine ⟨h, ?_, ?_, ?_, ?_⟩
    · rw [hq]; exact wfk (by show (0 : Int) ≤ ((L.getD 0 0 : Nat) : Int); omega) (by show ((L.getD 0 0 : Nat) : Int) ≤ 100000; omega)
    · rw [hq]; exact wfk (by show (0 : Int) ≤ ((getN _ L).ad : Int); omega) (by show ((getN _ L).ad : Int) ≤ 100000; omega)
    · rw [hq]; exact wfk (by show (0 : Int) ≤ ((getN _ L).q : Int); omega) (by show ((getN _ L).q : Int) ≤ 100000; omega)
    · rw [hq]; exact wfk (by show (0 : Int) ≤ ((getN _ L).to : Int); omega) (by show ((getN _ L).to : Int) ≤ 100000; omega)
  · refine ⟨h, ?_, ?_, ?_, ?_⟩ <;> rw [getq_z hc] <;> (show (Lit.int .i64 0).wf = true) <;> decide
/-- The request of bytes, wherever its words lie. -/
def rqD (D : List Nat) : Rq := wsl (getQ D) none (getQ D).V.length 0
/-- What is served. -/
def servF (D : List Nat) (R : Nat → List Nat) : List Nat × (Nat → List Nat) :=
  if getC D ≠ 0 then (alN D (getC D : Nat), R) else
  (if okR (rqD D) (doF (rqD D) R).1.1 (doF (rqD D) R).1.2 = true then repN (rqD D) (doF (rqD D) R).1.1 (doF (rqD D) R).1.2 else [], (doF (rqD D) R).2)
def ServP (B : Nat) (w : World) (p : Nat) (s : Nat → Nat) (x : List Nat × (Nat → List Nat)) (e : Ending) (w' : World) : Prop :=
  ∃ v, e = .returned v ∧ OwnV w.heap.size w' v x.1 ∧ Bn B w' p s x.2 ∧ Fw (bl s) w w'
theorem doF_wsl (q : Rq) (a : Option Addr) (n c : Nat) (b : Option Addr) (d : Nat) (R : Nat → List Nat) : doF (wsl q a n c) R = doF (wsl q b n d) R := rfl
theorem okR_wsl (q : Rq) (a : Option Addr) (n c : Nat) (b : Option Addr) (m d : Nat) (k : Int) (V : List Nat) : okR (wsl q a n c) k V = okR (wsl q b m d) k V := rfl
theorem repN_wsl (q : Rq) (a : Option Addr) (n c : Nat) (b : Option Addr) (m d : Nat) (k : Int) (V : List Nat) : repN (wsl q a n c) k V = repN (wsl q b m d) k V := rfl
theorem doF_code (r : Rq) (R : Nat → List Nat) : 0 ≤ (doF r R).1.1 ∧ (doF r R).1.1 ≤ 3 := by
  unfold doF
  repeat' split
  all_goals simp
set_option maxRecDepth 100000 in
set_option maxHeartbeats 8000000 in
theorem serve_any {B : Nat} {w : World} {p : Nat} {s : Nat → Nat} {R : Nat → List Nat} (h : Bn B w p s R) (a : Option Addr) (n c : Nat) (D : List Nat) (hA : ArgB w a n c D) (hn : n ≤ 100000) :
    Calls Try.prog 13 #[.pointer (some ⟨p, 0, none⟩), .slice a n c] w (ServP B w p s (servF D R)) := by
  obtain ⟨P, hP⟩ : ∃ P, P = (ServP B w p s (servF D R) : Ending → World → Prop) := ⟨_, rfl⟩
  rw [← hP]
  have GE := get_any a n c D w hA hn
  have H := Lib.hid h
  have HA := Lib.hid hA
  obtain ⟨gc, hgc⟩ : ∃ g, g = getC D := ⟨_, rfl⟩
  have hg3 : gc ≤ 3 := by rw [hgc]; unfold getC; repeat' split
                          all_goals omega
  unfold GetP at GE
  rw [← hgc] at GE
  by_cases h0 : gc = 0
  · subst h0
    have FIN : Hid (∀ W v, OwnV w.heap.size W v (if okR (rqD D) (doF (rqD D) R).1.1 (doF (rqD D) R).1.2 = true then repN (rqD D) (doF (rqD D) R).1.1 (doF (rqD D) R).1.2 else []) → Bn B W p s (doF (rqD D) R).2 → Fw (bl s) w W → P (.returned v) W) := Lib.hid (fun W v h1 h2 h3 => by
      rw [hP]; unfold ServP servF; rw [← hgc]; exact ⟨v, rfl, h1, h2, h3⟩)
    have HBY := Lib.hid hA.row.by'
    clear hP h hA hgc hg3
    go_enter Try.func13, Try.ntmps13
    go_wp2_with fail
    refine GE.mono ?_
    rintro e w1 ⟨vs, vn, vc, rfl, gA, z1, hfr⟩
    have hvn : vn = (getQ D).V.length := gA.row.ln.symm
    have hok := getQ_ok gA HBY.out
    obtain ⟨r, hr⟩ : ∃ r, r = wsl (getQ D) vs vn vc := ⟨_, rfl⟩
    have e1 : rqD D = wsl (getQ D) none vn 0 := by unfold rqD; rw [hvn]
    have F1 : Hid (∀ W v, OwnV w.heap.size W v (if okR r (doF r R).1.1 (doF r R).1.2 = true then repN r (doF r R).1.1 (doF r R).1.2 else []) → Bn B W p s (doF r R).2 → Fw (bl s) w W → P (.returned v) W) := Lib.hid (by
      have := FIN.out
      rw [e1] at this
      rw [hr, doF_wsl (getQ D) vs vn vc none 0, okR_wsl (getQ D) vs vn vc none vn 0, repN_wsl (getQ D) vs vn vc none vn 0]
      exact this)
    have FRR := Lib.hid (show ∀ b off, r.vs = some ⟨b, off, none⟩ → w.heap.size ≤ b by rw [hr]; exact hfr)
    have FRS := Lib.hid (fun b (hb : w.heap.size ≤ b) => bl_not H.out hb)
    clear hfr
    rw [← hr] at hok ⊢
    have HC := Lib.hid (doF_code r R)
    have BW := Lib.hid z1
    have N1 := Lib.hid (H.out.below z1)
    have OK1 := Lib.hid hok
    clear z1 gA hvn hr e1 hok FIN
    obtain ⟨W, hW⟩ : ∃ W, W = w1.alloc (.cells #[.int .i64 r.fc, .int .i64 r.ad, .int .i64 r.q, .slice r.vs r.vn r.vc, .int .i64 r.to] 32 (0, 0)) := ⟨_, rfl⟩
    have k1 := alloc_bq w1 (.cells #[.int .i64 r.fc, .int .i64 r.ad, .int .i64 r.q, .slice r.vs r.vn r.vc, .int .i64 r.to] 32 (0, 0))
    rw [← hW] at k1
    have x0 : W.heap[w1.heap.size]? = some (.cells #[.int .i64 r.fc, .int .i64 r.ad, .int .i64 r.q, .slice r.vs r.vn r.vc, .int .i64 r.to] 32 (0, 0)) := by rw [hW]; exact heap_alloc_new w1 _
    have X0 := Lib.hid x0
    have N2 := Lib.hid (N1.out.below k1)
    have B2 := Lib.hid (BW.out.trans (k1.mono BW.out.size))
    have OK2 := Lib.hid (OK1.out.below k1)
    have NB := Lib.hid (bl_not N1.out (y := w1.heap.size) (Nat.le_refl _))
    have HW := Lib.hid hW
    obtain ⟨g, hg⟩ : ∃ g, g = w1.heap.size := ⟨_, rfl⟩
    rw [← hg] at X0 NB
    have HG := Lib.hid hg
    have DO := Lib.hid (fun W' (hb : Below W.heap.size W W') => do_any (N2.out.below hb) r (OK2.out.below hb))
    have PU := Lib.hid (fun W' (hok : r.ok W') a n c (hA : ArgW W' a n c (doF r R).1.2) => show Calls Try.prog 30 #[rv r, .agg #[.int .i64 (doF r R).1.1, .slice a n c]] W' (OutP W' (if okR r (doF r R).1.1 (doF r R).1.2 = true then repN r (doF r R).1.1 (doF r R).1.2 else [])) from putQ_any r ⟨(doF r R).1.1, a, n, c, (doF r R).1.2⟩ W' hok ⟨hA, wf_i64 (by show (-9223372036854775808 : Int) ≤ (doF r R).1.1; have := HC.out; omega) (by show (doF r R).1.1 ≤ (9223372036854775807 : Int); have := HC.out; omega)⟩)
    generalize (if okR r (doF r R).1.1 (doF r R).1.2 = true then repN r (doF r R).1.1 (doF r R).1.2 else []) = OUT at F1 PU
    generalize doF r R = x at F1 DO PU HC
    obtain ⟨⟨xc, xV⟩, xR⟩ := x
    simp only at F1 PU DO HC
    have ROK := Lib.hid (fun W' (hf : Fw (bl s) W W') => OK2.out.fw hf (fun b off e => FRS.out b (by have := FRR.out b off e; omega)))
    obtain ⟨fc, ad, q, us, un, uc, U, rto⟩ := r
    simp only [rv] at DO PU X0 HW ⊢
    have g0 : Below W.heap.size W W.drew := (Below.refl _ _).drew
    have KS := Lib.hid (fun W' (hf : Fw (bl s) W W') => cells5 ((hf.block _ (blk_ltB X0.out) NB.out).trans X0.out))
    have q0 : Fw (bl s) W W.drew := Fw.of_below g0
    clear k1 x0 hW hg
    go_upto_region 4 with fail
    rw [← HW.out, ← HG.out]
    go_region_held3 (fun w' => w'.cell? ⟨g, 0, none⟩ = some (.int .i64 fc) ∧ w'.cell? ⟨g, 1, none⟩ = some (.int .i64 ad) ∧ w'.cell? ⟨g, 2, none⟩ = some (.int .i64 q) ∧ w'.cell? ⟨g, 3, none⟩ = some (.slice us un uc) ∧ w'.cell? ⟨g, 4, none⟩ = some (.int .i64 rto)) (with_reducible first | exact KS.out _ q6 | exact KS.out _ q5 | exact KS.out _ q0) (first
      | (go_at_call 17; refine (DO.out _ g0).mono ?_; rintro e w5 ⟨a5, n5, c5, rfl, A5, N5, f5, _⟩; have q5 : Fw (bl s) W w5 := q0.trans f5)
      | (go_at_call 30; refine (PU.out _ (ROK.out _ q5) a5 n5 c5 A5).mono ?_; rintro e w6 ⟨v6, rfl, o6, z6⟩; have q6 : Fw (bl s) W w6 := q5.trans (Fw.of_below z6)))
    have FF := Lib.hid (F1.out w6 v6 (o6.mono (Nat.le_trans (Nat.le_trans B2.out.size q5.size) (Nat.le_refl _))) (N5.below z6) ((Fw.of_below B2.out).trans q6))
    clear q5 q6 A5 N5 o6 z6 f5
    go_wp2_with fail
    exact FF.out
  · have FIN : Hid (∀ W v, OwnV w.heap.size W v (alN D (gc : Nat)) → Bn B W p s R → Fw (bl s) w W → P (.returned v) W) := Lib.hid (fun W v h1 h2 h3 => by
      rw [hP]; unfold ServP servF; rw [← hgc, if_pos h0]; exact ⟨v, rfl, h1, h2, h3⟩)
    have g0 : ((gc : Int) != 0) = true := by simp; omega
    clear hP h hA hgc hg3 h0
    go_enter Try.func13, Try.ntmps13
    go_wp2_with fail
    refine GE.mono ?_
    rintro e w1 ⟨vs, vn, vc, rfl, gA, z1, hfr⟩
    have AL := alarm_any a n c D (gc : Int) w1 (HA.out.row.below z1)
    have BW := Lib.hid z1
    generalize getQ D = Q at gA
    simp only [rv, wsl]
    clear gA hfr z1
    go_wp2_with fail
    have k1 := alloc_bq w1 (.cells #[.int .i64 Q.fc, .int .i64 Q.ad, .int .i64 Q.q, .slice vs vn vc, .int .i64 Q.to] 32 (0, 0))
    have AL2 := alarm_any a n c D (gc : Int) _ ((HA.out.row.below BW.out).below k1)
    have B2 := Lib.hid (BW.out.trans (k1.mono BW.out.size))
    clear k1
    refine AL2.mono ?_
    rintro e w2 ⟨v2, rfl, o2, z2⟩
    have B3 := Lib.hid (B2.out.trans (z2.mono B2.out.size))
    have FF := Lib.hid (FIN.out w2 v2 (o2.mono B2.out.size) (H.out.below B3.out) (Fw.of_below B3.out))
    clear o2 z2 AL AL2
    go_wp2_with fail
    exact FF.out
end Go.Proofs.Ytdolgpogjnfpkaa
