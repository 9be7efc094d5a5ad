/- Small things for the laws of banks. -/
import Derived.Test.YtdolgpogjnfpkaaSv18
namespace Go.Proofs.Ytdolgpogjnfpkaa
set_option linter.unusedVariables false
set_option linter.unusedSimpArgs false
open Go.ChangeShapes Go.WideShapes Go.ChangeAt Go.RowKit

theorem arg_new (w : World) (L : List Nat) (hl : L.length ≤ 1000) (hb : ∀ b ∈ L, b < 256) : ArgB (w.alloc (.cells (bv L).toArray 5 (0, 0))) (some ⟨w.heap.size, 0, none⟩) L.length L.length L :=
  ⟨bys_block L (by unfold maxLen; omega) hb (heap_alloc_new _ _), (fun e => by cases e), Nat.le_refl _, by unfold maxLen; omega⟩
theorem argw_new (w : World) (L : List Nat) (hl : L.length ≤ 1000) (hb : ∀ b ∈ L, b < 65536) : ArgW (w.alloc (.cells (wv L).toArray 34 (0, 0))) (some ⟨w.heap.size, 0, none⟩) L.length L.length L :=
  ⟨wds_block L (by unfold maxLen; omega) hb (heap_alloc_new _ _), (fun e => by cases e), Nat.le_refl _, by unfold maxLen; omega⟩
theorem Bn.one {B : Nat} {W : World} {p : Nat} {s : Nat → Nat} {R : Nat → List Nat} (h : Bn B W p s R) {y : Nat} (hp : p ≠ y) (hs : ∀ k, k < 4 → s k ≠ y) (i : Nat) (v : Value) : Bn B (W.setCell ⟨y, i, none⟩ v) p s R :=
  ⟨h.hp, (Below.heap_setCell _ _ _ _ hp).trans h.blk, h.hs, h.ne, fun k hk => (Below.heap_setCell _ _ _ _ (hs k hk)).trans (h.row k hk), h.len, h.wd⟩
theorem ArgW.fw {W W' : World} {a : Option Addr} {n c : Nat} {V : List Nat} {l : List Nat} (h : ArgW W a n c V) (f : Fw l W W') (hf : ∀ b off, a = some ⟨b, off, none⟩ → b ∉ l) : ArgW W' a n c V := by
  refine ⟨⟨h.row.ln, h.row.le, h.row.by', ?_⟩, h.nil, h.le, h.mx⟩
  rcases h.row.at' with z | ⟨b, off, e, hlt, hc⟩
  · exact .inl z
  · exact .inr ⟨b, off, e, Nat.lt_of_lt_of_le hlt f.size, fun i hi => (World.cell?_of_block (a := ⟨b, off + i, none⟩) (f.block b hlt (hf b off e))).trans (hc i hi)⟩
theorem ArgB.fw {W W' : World} {a : Option Addr} {n c : Nat} {V : List Nat} {l : List Nat} (h : ArgB W a n c V) (f : Fw l W W') (hf : ∀ b off, a = some ⟨b, off, none⟩ → b ∉ l) : ArgB W' a n c V := by
  refine ⟨⟨h.row.ln, h.row.le, h.row.by', ?_⟩, h.nil, h.le, h.mx⟩
  rcases h.row.at' with z | ⟨b, off, e, hlt, hc⟩
  · exact .inl z
  · exact .inr ⟨b, off, e, Nat.lt_of_lt_of_le hlt f.size, fun i hi => (World.cell?_of_block (a := ⟨b, off + i, none⟩) (f.block b hlt (hf b off e))).trans (hc i hi)⟩
theorem bl_ne {s : Nat → Nat} {y : Nat} (h : y ∉ bl s) : ∀ k, k < 4 → s k ≠ y := fun k hk e => h (e ▸ bl_mem hk)
/-- A row of words of the law's own. -/
def Wn (W : World) (g : Nat) (L : List Nat) : Prop := W.heap[g]? = some (.cells (wv L).toArray 34 (0, 0))
theorem Wn.cell {W : World} {g i : Nat} {L : List Nat} (h : Wn W g L) (hi : i < L.length) : W.cell? ⟨g, i, none⟩ = some (.int .u16 ((L.getD i 0 : Nat) : Int)) ∧ W.frozen? ⟨g, i, none⟩ = false := by
  unfold Wn at h
  constructor
  · simp only [World.cell?, h]; simpa using wv_get L i hi
  · simp [World.frozen?, h]
theorem Wn.set {W : World} {g : Nat} {L : List Nat} (h : Wn W g L) (i x : Nat) : Wn (W.setCell ⟨g, i, none⟩ (.int .u16 (x : Int))) g (L.set i x) := by
  unfold Wn at h ⊢
  rw [← wv_set]
  simp [World.setCell, Array.getElem?_modify, h]
theorem Wn.fw {W W' : World} {g : Nat} {L : List Nat} {l : List Nat} (h : Wn W g L) (f : Fw l W W') (hg : g ∉ l) : Wn W' g L := (f.block g (blk_ltB h) hg).trans h
theorem Wn.below {W W' : World} {g : Nat} {L : List Nat} (h : Wn W g L) (f : Below W.heap.size W W') : Wn W' g L := (f.block g (blk_ltB h)).trans h
end Go.Proofs.Ytdolgpogjnfpkaa
/- The live question of banks. -/
namespace Go.Proofs.Ytdolgpogjnfpkaa
set_option linter.unusedVariables false
set_option linter.unusedSimpArgs false
open Go.ChangeShapes Go.WideShapes Go.ChangeAt Go.RowKit

theorem doF_ok {r : Rq} {R : Nat → List Nat} (h1 : rightR r = true) (h2 : plB R (kdB r.fc) r.ad (max r.q.toNat 1) = true) (h3 : r.fc ≠ 23) :
    doF r R = ((0, if (fo r.fc).rd = true then (((upR R (kdB r.fc).toNat (wrL r (R (kdB r.fc).toNat) r.ad.toNat (max r.q.toNat 1))) (kdB r.fc).toNat).drop r.ad.toNat).take (max r.q.toNat 1) else []), upR R (kdB r.fc).toNat (wrL r (R (kdB r.fc).toNat) r.ad.toNat (max r.q.toNat 1))) := by
  unfold doF
  rw [if_neg (by rw [h1]; simp), if_neg (by rw [h2]; simp), if_neg h3]
theorem doF_no {r : Rq} {R : Nat → List Nat} (h1 : rightR r = true) (h2 : plB R (kdB r.fc) r.ad (max r.q.toNat 1) = false) : doF r R = ((2, []), R) := by
  unfold doF
  rw [if_neg (by rw [h1]; simp), if_pos h2]
theorem h_do1 {R : Nat → List Nat} (vs : Option Addr) (vc : Nat) (h : R 2 = [0, 0, 0, 0]) : doF ⟨16, 1, 2, vs, 2, vc, [7, 8], 0⟩ R = ((0, []), upR R 2 [0, 7, 8, 0]) := by
  have h1 : rightR ⟨16, 1, 2, vs, 2, vc, [7, 8], 0⟩ = true := rfl
  have h2 : plB R (kdB 16) 1 (max (2 : Int).toNat 1) = true := by unfold plB; rw [show kdB 16 = 2 from rfl]; simp [h]
  rw [doF_ok h1 h2 (show (16 : Int) ≠ 23 by decide)]
  show ((0, if (fo 16).rd = true then _ else []), upR R 2 (wrL _ (R 2) 1 2)) = _
  rw [h, if_neg (by decide)]
  rfl
theorem h_do2 {R : Nat → List Nat} (h : R 2 = [0, 7, 8, 0]) : doF ⟨3, 0, 4, none, 0, 0, [], 0⟩ R = ((0, [0, 7, 8, 0]), upR R 2 [0, 7, 8, 0]) := by
  have h1 : rightR ⟨3, 0, 4, none, 0, 0, [], 0⟩ = true := rfl
  have h2 : plB R (kdB 3) 0 (max (4 : Int).toNat 1) = true := by unfold plB; rw [show kdB 3 = 2 from rfl]; simp [h]
  rw [doF_ok h1 h2 (by decide)]
  show ((0, if (fo 3).rd = true then ((upR R 2 (wrL _ (R 2) 0 4) 2).drop 0).take 4 else []), upR R 2 (wrL _ (R 2) 0 4)) = _
  rw [h, if_pos (by decide)]
  rfl
theorem h_do3 {R : Nat → List Nat} (h : R 2 = [0, 7, 8, 0]) : doF ⟨3, 2, 3, none, 0, 0, [], 0⟩ R = ((2, []), R) := by
  have h1 : rightR ⟨3, 2, 3, none, 0, 0, [], 0⟩ = true := rfl
  have h2 : plB R (kdB 3) 2 (max (3 : Int).toNat 1) = false := by unfold plB; rw [show kdB 3 = 2 from rfl]; simp [h]
  exact doF_no h1 h2
theorem h_rq : rqD [22, 0, 1, 0, 6, 0, 9] = ⟨22, 1, 0, none, 2, 0, [6, 9], 0⟩ := by kernel_rfl
theorem h_sv1 {R : Nat → List Nat} (h : R 2 = [0, 7, 8, 0]) : servF [22, 0, 1, 0, 6, 0, 9] R = ([22, 0, 1, 0, 6, 0, 9], upR R 2 [0, 15, 8, 0]) := by
  have hc : getC [22, 0, 1, 0, 6, 0, 9] = 0 := by decide +kernel
  have hd : doF ⟨22, 1, 0, none, 2, 0, [6, 9], 0⟩ R = ((0, []), upR R 2 [0, 15, 8, 0]) := by
    have h1 : rightR ⟨22, 1, 0, none, 2, 0, [6, 9], 0⟩ = true := rfl
    have h2 : plB R (kdB 22) 1 (max (0 : Int).toNat 1) = true := by unfold plB; rw [show kdB 22 = 2 from rfl]; simp [h]
    rw [doF_ok h1 h2 (by decide)]
    show ((0, if (fo 22).rd = true then _ else []), upR R 2 (wrL _ (R 2) 1 1)) = _
    rw [h, if_neg (by decide)]
    rfl
  unfold servF
  rw [if_neg (by rw [hc]; simp), h_rq, hd]
  have ho : okR ⟨22, 1, 0, none, 2, 0, [6, 9], 0⟩ 0 [] = true := by decide +kernel
  have hr : repN ⟨22, 1, 0, none, 2, 0, [6, 9], 0⟩ 0 [] = [22, 0, 1, 0, 6, 0, 9] := by decide +kernel
  simp only [ho, hr, if_true]
theorem h_sv2 (R : Nat → List Nat) : servF [9] R = ([137, 1], R) := by
  have hc : getC [9] = 1 := by decide +kernel
  unfold servF
  rw [if_pos (by rw [hc]; simp), hc]
  rfl
set_option maxRecDepth 100000 in
set_option maxHeartbeats 8000000 in
theorem head_any (w : World) : Calls Try.prog 9 #[] w (BoolB w true) := by
  obtain ⟨P, hP⟩ : ∃ P, P = (BoolB w true : Ending → World → Prop) := ⟨_, rfl⟩
  rw [← hP]
  have FIN : Hid (∀ W', Below w.heap.size w W' → P (.returned (.bool true)) W') := Lib.hid (fun W' h => by rw [hP]; exact ⟨rfl, h⟩)
  clear hP
  go_enter Try.func9, Try.ntmps9
  go_wp2_with fail
  refine (newb_any 4 4 4 4 w).mono ?_
  rintro e w1 ⟨p, s, rfl, n1, z1⟩
  obtain ⟨R0, hR0⟩ : ∃ R : Nat → List Nat, R = (fun j => List.replicate (clB (n4 4 4 4 4 j)) 0) := ⟨_, rfl⟩
  rw [← hR0] at n1
  have h02 : R0 2 = [0, 0, 0, 0] := by rw [hR0]; decide
  have h01 : R0 1 = [0, 0, 0, 0] := by rw [hR0]; decide
  have al := alloc_bq w1 (.cells (wv [7, 8]).toArray 34 (0, 0))
  have B1 := Lib.hid (z1.trans (al.mono z1.size))
  have N1 := Lib.hid (n1.below al)
  have A1 := argw_new w1 [7, 8] (by simp) (by decide)
  have DO := Lib.hid (do_any N1.out ⟨16, 1, 2, some ⟨w1.heap.size, 0, none⟩, 2, 2, [7, 8], 0⟩ ⟨A1, (show (Lit.int .i64 16).wf = true by decide), (show (Lit.int .i64 1).wf = true by decide), (show (Lit.int .i64 2).wf = true by decide), (show (Lit.int .i64 0).wf = true by decide)⟩)
  rw [h_do1 _ _ h02] at DO
  obtain ⟨R1, hR1⟩ : ∃ R : Nat → List Nat, R = upR R0 2 [0, 7, 8, 0] := ⟨_, rfl⟩
  rw [← hR1] at DO
  have H12 := Lib.hid (show R1 2 = [0, 7, 8, 0] by rw [hR1]; simp [upR])
  have H11 := Lib.hid (show R1 1 = [0, 0, 0, 0] by rw [hR1]; simp [upR, h01])
  clear n1 z1 hR0 h02 h01 hR1 al A1
  go_wp2_with fail
  refine DO.out.mono ?_
  rintro e w2 ⟨a2, n2', c2, rfl, A2, n2, f2, _⟩
  simp only at A2 n2 ⊢
  have al := alloc_bq w2 (.cells #[.int .i64 0, .slice a2 n2' c2] 40 (0, 0))
  have N2 := Lib.hid (n2.below al)
  have b2 := B1.out.trans ((N1.out.step f2).mono (Nat.le_refl _))
  have B2 := Lib.hid (b2.trans (al.mono b2.size))
  have X2 := Lib.hid (heap_alloc_new w2 (.cells #[.int .i64 0, .slice a2 n2' c2] 40 (0, 0)))
  have DO2 := Lib.hid (do_any N2.out ⟨3, 0, 4, none, 0, 0, [], 0⟩ ⟨argW_noB _, (show (Lit.int .i64 3).wf = true by decide), (show (Lit.int .i64 0).wf = true by decide), (show (Lit.int .i64 4).wf = true by decide), (show (Lit.int .i64 0).wf = true by decide)⟩)
  rw [h_do2 H12.out] at DO2
  obtain ⟨R2, hR2⟩ : ∃ R : Nat → List Nat, R = upR R1 2 [0, 7, 8, 0] := ⟨_, rfl⟩
  rw [← hR2] at DO2
  have H22 := Lib.hid (show R2 2 = [0, 7, 8, 0] by rw [hR2]; simp [upR])
  have H21 := Lib.hid (show R2 1 = [0, 0, 0, 0] by rw [hR2]; simp [upR, H11.out])
  have NX := Lib.hid (bl_not n2 (y := w2.heap.size) (Nat.le_refl _))
  clear n2 f2 b2 al hR2 A2 DO
  obtain ⟨g2, hg2⟩ : ∃ g, g = w2.heap.size := ⟨_, rfl⟩
  obtain ⟨W2, hW2⟩ : ∃ W, W = w2.alloc (.cells #[.int .i64 0, .slice a2 n2' c2] 40 (0, 0)) := ⟨_, rfl⟩
  rw [← hg2] at X2 NX
  rw [← hW2] at N2 B2 X2 DO2
  have HG2 := Lib.hid hg2
  have HW2 := Lib.hid hW2
  clear hg2 hW2
  go_upto_region 5 with fail
  rw [← HW2.out, ← HG2.out]
  go_wp2_with fail
  refine DO2.out.mono ?_
  rintro e w3 ⟨a3, n3', c3, rfl, A3, n3, f3, r3⟩
  simp only at A3 n3 ⊢
  obtain rfl : n3' = 4 := by have := A3.row.ln; simpa using this.symm
  have al := alloc_bq w3 (.cells #[.int .i64 0, .slice a3 4 c3] 40 (0, 0))
  have N3 := Lib.hid (n3.below al)
  have b3 := B2.out.trans ((N2.out.step f3).mono (Nat.le_refl _))
  have B3 := Lib.hid (b3.trans (al.mono b3.size))
  have X3 := Lib.hid (heap_alloc_new w3 (.cells #[.int .i64 0, .slice a3 4 c3] 40 (0, 0)))
  have NX3 := Lib.hid (bl_not n3 (y := w3.heap.size) (Nat.le_refl _))
  have AN3 := Lib.hid (fun b off (e : a3 = some ⟨b, off, none⟩) => bl_not N2.out (r3 b off e))
  have HA3 := Lib.hid (A3.below al)
  have F23 := Lib.hid (f3.trans (Fw.of_below al))
  have DO3 := Lib.hid (do_any N3.out ⟨3, 2, 3, none, 0, 0, [], 0⟩ ⟨argW_noB _, (show (Lit.int .i64 3).wf = true by decide), (show (Lit.int .i64 2).wf = true by decide), (show (Lit.int .i64 3).wf = true by decide), (show (Lit.int .i64 0).wf = true by decide)⟩)
  rw [h_do3 H22.out] at DO3
  clear n3 f3 b3 al A3 r3 DO2
  obtain ⟨g3, hg3⟩ : ∃ g, g = w3.heap.size := ⟨_, rfl⟩
  obtain ⟨W3, hW3⟩ : ∃ W, W = w3.alloc (.cells #[.int .i64 0, .slice a3 4 c3] 40 (0, 0)) := ⟨_, rfl⟩
  rw [← hg3] at X3 NX3
  rw [← hW3] at N3 B3 X3 DO3 HA3 F23
  have HG3 := Lib.hid hg3
  have HW3 := Lib.hid hW3
  clear hg3 hW3
  go_upto_region 6 with fail
  rw [← HW3.out, ← HG3.out]
  go_wp2_with fail
  refine DO3.out.mono ?_
  rintro e w4 ⟨a4, n4', c4, rfl, A4, n4, f4, _⟩
  simp only at A4 n4 ⊢
  have al := alloc_bq w4 (.cells #[.int .i64 2, .slice a4 n4' c4] 40 (0, 0))
  have b4 := B3.out.trans ((N3.out.step f4).mono (Nat.le_refl _))
  have X4 := Lib.hid (heap_alloc_new w4 (.cells #[.int .i64 2, .slice a4 n4' c4] 40 (0, 0)))
  have NX4 := Lib.hid (bl_not n4 (y := w4.heap.size) (Nat.le_refl _))
  obtain ⟨g4, hg4⟩ : ∃ g, g = w4.heap.size := ⟨_, rfl⟩
  obtain ⟨W4, hW4⟩ : ∃ W, W = w4.alloc (.cells #[.int .i64 2, .slice a4 n4' c4] 40 (0, 0)) := ⟨_, rfl⟩
  rw [← hg4] at X4 NX4
  rw [← hW4] at X4 al
  have N4 := Lib.hid (n4.below al)
  have B4 := Lib.hid (b4.trans (al.mono b4.size))
  have F34 := Lib.hid (f4.trans (Fw.of_below al))
  have HG4 := Lib.hid hg4
  have HW4 := Lib.hid hW4
  have al2 := alloc_bq W4 (.cells (bv [22, 0, 1, 0, 6, 0, 9]).toArray 5 (0, 0))
  have N4b := Lib.hid (N4.out.below al2)
  have B4b := Lib.hid (B4.out.trans (al2.mono B4.out.size))
  have F44 := Lib.hid (Fw.of_below (l := bl s) al2)
  have SV := Lib.hid (serve_any N4b.out _ _ _ _ (arg_new W4 [22, 0, 1, 0, 6, 0, 9] (by simp) (by decide)) (by simp))
  rw [h_sv1 H22.out] at SV
  obtain ⟨R3, hR3⟩ : ∃ R : Nat → List Nat, R = upR R2 2 [0, 15, 8, 0] := ⟨_, rfl⟩
  rw [← hR3] at SV
  have H32 := Lib.hid (show R3 2 = [0, 15, 8, 0] by rw [hR3]; simp [upR])
  have H31 := Lib.hid (show R3 1 = [0, 0, 0, 0] by rw [hR3]; simp [upR, H21.out])
  clear n4 f4 b4 al al2 A4 hg4 hW4 DO3 hR3
  go_upto_region 7 with fail
  rw [← HW4.out, ← HG4.out]
  go_wp2_with fail
  refine SV.out.mono ?_
  rintro e w5 ⟨v5, rfl, o5, n5, f5⟩
  obtain ⟨a5, c5, rfl, A5, r5⟩ := OwnV.argB o5 (show ∀ b ∈ [22, 0, 1, 0, 6, 0, 9], b < 256 by decide)
  have N5 := Lib.hid n5
  have B5 := Lib.hid (B4b.out.trans ((N4b.out.step f5).mono (Nat.le_refl _)))
  have HA5 := Lib.hid A5
  have AN5 := Lib.hid (fun b off (e : a5 = some ⟨b, off, none⟩) => bl_not N4b.out (r5 b off e))
  have F45 := Lib.hid (F44.out.trans f5)
  have AT1 := at_any N5.out 2 1 (by omega)
  have AT2 := at_any N5.out 2 4 (by omega)
  unfold AtP at AT1 AT2
  have p1 : plB R3 2 1 1 = true := by unfold plB; simp [H32.out]
  have p2 : plB R3 2 4 1 = false := by unfold plB; simp [H32.out]
  rw [show atB R3 2 1 = 15 by unfold atB; rw [p1]; simp [H32.out], p1] at AT1
  rw [show atB R3 2 4 = 0 by unfold atB; rw [p2]; simp, p2] at AT2
  have PU := putb_any N5.out 1 3 9 (by omega) (by omega)
  unfold PutB at PU
  have p3 : plB R3 1 3 1 = true := by unfold plB; simp [H31.out]
  rw [show putB R3 1 3 9 = upR R3 1 [0, 0, 0, 1] by unfold putB capV; rw [p3]; simp [H31.out], p3] at PU
  obtain ⟨R4, hR4⟩ : ∃ R : Nat → List Nat, R = upR R3 1 [0, 0, 0, 1] := ⟨_, rfl⟩
  rw [← hR4] at PU
  have H42 := Lib.hid (show R4 2 = [0, 15, 8, 0] by rw [hR4]; simp [upR, H32.out])
  have H41 := Lib.hid (show R4 1 = [0, 0, 0, 1] by rw [hR4]; simp [upR])
  have HPU := Lib.hid PU
  have HAT2 := Lib.hid AT2
  clear o5 n5 f5 A5 r5 p1 p2 p3 hR4 PU AT2 SV
  go_wp2_with fail
  refine AT1.mono ?_
  rintro e wx ⟨rfl, rfl⟩
  go_wp2_with fail
  refine HAT2.out.mono ?_
  rintro e wx ⟨rfl, rfl⟩
  go_wp2_with fail
  refine HPU.out.mono ?_
  rintro e w6 ⟨rfl, n6, f6⟩
  have N6 := Lib.hid n6
  have B6 := Lib.hid (B5.out.trans ((N5.out.step f6).mono (Nat.le_refl _)))
  have AT3 := at_any N6.out 1 3 (by omega)
  unfold AtP at AT3
  have p4 : plB R4 1 3 1 = true := by unfold plB; simp [H41.out]
  rw [show atB R4 1 3 = 1 by unfold atB; rw [p4]; simp [H41.out], p4] at AT3
  have F46 := F45.out.trans f6
  have F36 := F34.out.trans F46
  have F26 := F23.out.trans F36
  have x2 := (F26.block g2 (blk_ltB X2.out) NX.out).trans X2.out
  have x3 := (F36.block g3 (blk_ltB X3.out) NX3.out).trans X3.out
  have x4 := (F46.block g4 (blk_ltB X4.out) NX4.out).trans X4.out
  have HX4 := Lib.hid x4
  have A36 := Lib.hid (HA3.out.fw F36 AN3.out)
  have A56 := Lib.hid (HA5.out.fw f6 AN5.out)
  obtain ⟨k0, _⟩ := cells2q x2
  obtain ⟨_, k1⟩ := cells2q x3
  have al := alloc_bq w6 (.cells (wv [0, 7, 8, 0]).toArray 34 (0, 0))
  have SM := Lib.hid (samevals_any a3 4 c3 [0, 7, 8, 0] (some ⟨w6.heap.size, 0, none⟩) 4 4 [0, 7, 8, 0] (w6.alloc (.cells (wv [0, 7, 8, 0]).toArray 34 (0, 0))) (A36.out.below al).row (argw_new w6 [0, 7, 8, 0] (by simp) (by decide)).row)
  have AL := Lib.hid al
  clear n6 f6 p4 F46 F36 F26 x2 x3 x4 al
  go_wp2_with fail
  refine AT3.mono ?_
  rintro e wy ⟨rfl, rfl⟩
  clear AT3
  go_wp2_with fail
  refine SM.out.mono ?_
  rintro e w8 ⟨rfl, z8⟩
  have z68 := AL.out.trans (z8.mono AL.out.size)
  have N8 := Lib.hid (N6.out.below z68)
  have B8 := Lib.hid (B6.out.trans (z68.mono B6.out.size))
  obtain ⟨k4, _⟩ := cells2q (low_of z68 HX4.out)
  have cv : (convert 33 9 (.slice a5 7 c5)).run Try.prog w8 = .ok (.string { data := #[22, 0, 1, 0, 6, 0, 9] }) w8 := conv_bys (A56.out.row.below z68) (cap := c5)
  have SZ := size_any N8.out 2
  rw [show szB R4 2 = 4 by unfold szB; simp [H42.out]] at SZ
  have al9 := alloc_bq w8 (.cells (bv [9]).toArray 5 (0, 0))
  have SV := Lib.hid (serve_any (N8.out.below al9) _ _ _ _ (arg_new w8 [9] (by simp) (by decide)) (by simp))
  rw [h_sv2] at SV
  have B9 := Lib.hid (B8.out.trans (al9.mono B8.out.size))
  have N9 := Lib.hid (N8.out.below al9)
  clear z68 z8 al9 k0 k1
  go_wp2_with fail
  refine SZ.mono ?_
  rintro e wz ⟨rfl, rfl⟩
  clear SZ cv k4
  go_wp2_with fail
  refine SV.out.mono ?_
  rintro e wA ⟨v9, rfl, o9, n9, f9⟩
  obtain ⟨a9, c9, rfl, A9, _⟩ := OwnV.argB o9 (show ∀ b ∈ [137, 1], b < 256 by decide)
  have cv : (convert 33 9 (.slice a9 2 c9)).run Try.prog wA = .ok (.string { data := #[137, 1] }) wA := conv_bys A9.row (cap := c9)
  have BA := Lib.hid (B9.out.trans ((N9.out.step f9).mono (Nat.le_refl _)))
  clear o9 n9 f9 A9 SV
  go_wp2_with fail
  exact FIN.out _ BA.out
end Go.Proofs.Ytdolgpogjnfpkaa
/- What stands at all places. -/
namespace Go.Proofs.Ytdolgpogjnfpkaa
set_option linter.unusedVariables false
set_option linter.unusedSimpArgs false
open Go.ChangeShapes Go.WideShapes Go.ChangeAt Go.RowKit

theorem own_formW {B : Nat} {w : World} {v : Value} {n : Nat} {L : List Value} (h : w.ownsRow B 34 1 v n L) : ∃ a c, v = .slice a n c := by
  rcases h.2 with ⟨h, h0⟩ | ⟨g, cap, cur, h, _⟩
  · exact ⟨none, 0, by rw [h, h0]⟩
  · exact ⟨_, _, h⟩
/-- The rows ahead of the k-th. -/
def allK (R : Nat → List Nat) : Nat → List Nat
  | 0 => []
  | k + 1 => allK R k ++ R k
theorem take_snocN (V : List Nat) (k : Nat) (h : k < V.length) : V.take (k + 1) = V.take k ++ [V.getD k 0] := by
  rw [List.take_add_one, List.getElem?_eq_getElem h]
  simp [List.getD, List.getElem?_eq_getElem h]
theorem allK_wd {R : Nat → List Nat} (h : ∀ k, k < 4 → ∀ v ∈ R k, v < 65536) : ∀ k, k ≤ 4 → ∀ v ∈ allK R k, v < 65536
  | 0, _, v, hv => by simp [allK] at hv
  | k + 1, hk, v, hv => by
    rcases List.mem_append.1 hv with q | q
    · exact allK_wd h k (by omega) v q
    · exact h k (by omega) v q
theorem allK_le {R : Nat → List Nat} (h : ∀ k, k < 4 → (R k).length ≤ 256) : ∀ k, k ≤ 4 → (allK R k).length ≤ 256 * k
  | 0, _ => by simp [allK]
  | k + 1, hk => by
    have := allK_le h k (by omega)
    have := h k (by omega)
    simp only [allK, List.length_append]
    omega
def AllP (w : World) (V : List Nat) (e : Ending) (w' : World) : Prop := ∃ a n c, e = .returned (.slice a n c) ∧ ArgW w' a n c V ∧ Below w.heap.size w w'
set_option maxRecDepth 100000 in
set_option maxHeartbeats 8000000 in
theorem all_any {B : Nat} {w : World} {p : Nat} {s : Nat → Nat} {R : Nat → List Nat} (h : Bn B w p s R) :
    Calls Try.prog 22 #[.pointer (some ⟨p, 0, none⟩)] w (AllP w (allK R 4)) := by
  obtain ⟨P, hP⟩ : ∃ P, P = (AllP w (allK R 4) : Ending → World → Prop) := ⟨_, rfl⟩
  rw [← hP]
  have H := Lib.hid h
  have FIN : Hid (∀ W v n, n = (allK R 4).length → W.ownsRow w.heap.size 34 1 v n (wv (allK R 4)) → Below w.heap.size w W → P (.returned v) W) := Lib.hid (fun W v n hn ho hb => by
    subst hn
    obtain ⟨a, c, rfl, hA, _⟩ := own33_arg ho (allK_wd H.out.wd 4 (Nat.le_refl _))
    rw [hP]; exact ⟨a, _, c, rfl, hA, hb⟩)
  have LE := Lib.hid (allK_le H.out.len)
  clear h hP
  go_enter Try.func22, Try.ntmps22
  go_wp2_with fail
  go_loopw [3, 4] (fun v iv wr => ∃ (k n : Nat), k ≤ 4 ∧ iv = .int .i64 k ∧ n = (allK R k).length ∧ wr.ownsRow w.heap.size 34 1 v n (wv (allK R k)) ∧ Below w.heap.size w wr) (fun _ iv _ => 4 - (intOf iv).toNat)
  case atStart => exact ⟨0, 0, Nat.zero_le _, rfl, rfl, ownw_none, Below.refl _ _⟩
  case round =>
    obtain ⟨wo, rfl⟩ : ∃ wo : World, wo = wr := ⟨_, rfl⟩
    obtain ⟨k, n, hk, rfl, hn, ho, hb⟩ := hrel
    by_cases hk4 : k < 4
    · have hk1 : (k : Int) < 4 := by omega
      obtain ⟨va, vc, rfl⟩ := own_formW ho
      have HN := Lib.hid hn
      have HO := Lib.hid ho
      have HB := Lib.hid hb
      have SZ := Lib.hid (fun W (hb : Below w.heap.size w W) => size_any (H.out.below hb) (k : Int))
      have hsz : szB R (k : Int) = (R k).length := by unfold szB; rw [if_pos (by omega)]; simp
      rw [hsz] at SZ
      have hl := H.out.len k hk4
      clear hn ho hb hsz
      go_wp2_with fail
      go_loopw [3, 5] (fun v iv wr => ∃ (i m : Nat), i ≤ (R k).length ∧ iv = .int .i64 i ∧ m = n + i ∧ wr.ownsRow w.heap.size 34 1 v m (wv (allK R k ++ (R k).take i)) ∧ Below w.heap.size w wr) (fun _ iv _ => (R k).length - (intOf iv).toNat)
      case atStart => exact ⟨0, n, Nat.zero_le _, rfl, rfl, by simpa using HO.out, HB.out⟩
      case round =>
        obtain ⟨wi, rfl⟩ : ∃ wo : World, wo = wr := ⟨_, rfl⟩
        obtain ⟨i, m, hi, rfl, hm, ho, hb⟩ := hrel
        obtain ⟨xa, xc, rfl⟩ := own_formW ho
        have HO2 := Lib.hid ho
        have HB2 := Lib.hid hb
        have HM := Lib.hid hm
        clear ho hb hm
        go_wp2_with fail
        refine (SZ.out wi HB2.out).mono ?_
        rintro e wx ⟨rfl, rfl⟩
        obtain ⟨q, hq⟩ : ∃ q, q = (R k).length := ⟨_, rfl⟩
        have HQ := Lib.hid hq
        rw [← hq] at hi hl ⊢
        clear hq
        by_cases hiq : i < q
        · have i3 : (i : Int) < 300 := by omega
          have i4 : (i : Int) < (q : Int) := by omega
          have p1 : plB R (k : Int) (i : Int) 1 = true := by unfold plB; have := HQ.out; simp; omega
          have AT := at_any (H.out.below HB2.out) (k : Int) (i : Int) (by omega)
          unfold AtP at AT
          rw [show atB R (k : Int) (i : Int) = (R k).getD i 0 by unfold atB; rw [p1]; simp, p1] at AT
          have hts := take_snocN (R k) i (by have := HQ.out; omega)
          have hv := wgetD_lt (H.out.wd k hk4) i
          generalize (R k).getD i 0 = v at AT hts hv
          have HTS := Lib.hid hts
          have HA := Lib.hid AT
          clear p1 hts AT
          have hmle : m ≤ 2000 := by have := HM.out; have := HN.out; have := LE.out k (by omega); omega
          go_wp2_with fail
          refine HA.out.mono ?_
          rintro e wy ⟨rfl, rfl⟩
          have al := alloc_bq wy (.cells (wv [v]).toArray 34 (0, 0))
          have OA := Lib.hid (own33_keep HO2.out (fun b _ hb => (al.block b hb)))
          have BA := Lib.hid (HB2.out.trans (al.mono HB2.out.size))
          have WA := Lib.hid (argw_new wy [v] (by simp) (by intro b hb; simp at hb; omega)).row
          clear al
          go_wp2_with (at_builtin; refine wpList_append_wds rfl (.tmp 30) (.tmp 32) rfl w.heap.size _ BA.out.size _ m (allK R k ++ (R k).take i) rfl OA.out (some ⟨wy.heap.size, 0, none⟩) 1 1 [v] rfl WA.out (fun e => by cases e) (by omega) ?_)
          intro v4 w4 ho4 hg4 _ _
          have B4 := Lib.hid (BA.out.grown hg4 BA.out.size (fun q hq => (World.ownsRow.lt OA.out q hq).1))
          have O4 : Hid (w4.ownsRow w.heap.size 34 1 v4 (m + 1) (wv (allK R k ++ (R k).take (i + 1)))) := Lib.hid (by rw [HTS.out]; exact ho4)
          clear ho4 hg4
          go_wp2_with fail
          go_roundw
          case rel => exact ⟨i + 1, m + 1, by have := HQ.out; omega, by go_num, by have := HM.out; omega, O4.out, B4.out⟩
          case measure => have := HQ.out; simp [intOf]; omega
        · have hk' : i = q := by omega
          subst hk'
          have O4 : Hid (wx.ownsRow w.heap.size 34 1 (.slice xa m xc) m (wv (allK R (k + 1)))) := Lib.hid (by
            have := HO2.out
            rw [List.take_of_length_le (by have := HQ.out; omega)] at this
            exact this)
          have hm2 : m = (allK R (k + 1)).length := by have := HM.out; have := HN.out; have := HQ.out; simp only [allK, List.length_append]; omega
          have HM2 := Lib.hid hm2
          clear hm2
          go_wp2_with fail
          go_roundw
          case rel => exact ⟨k + 1, m, by omega, by go_num, HM2.out, O4.out, HB2.out⟩
          case measure => simp [intOf]; omega
    · have hk' : k = 4 := by omega
      subst hk'
      have F := Lib.hid (FIN.out wo _ n hn ho hb)
      clear ho hb hn
      go_wp2_with fail
      exact F.out
end Go.Proofs.Ytdolgpogjnfpkaa
