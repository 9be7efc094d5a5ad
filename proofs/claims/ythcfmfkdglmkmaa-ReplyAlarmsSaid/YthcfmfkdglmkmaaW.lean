/- What bytes would answer. -/
import Derived.Test.YthcfmfkdglmkmaaU
namespace Go.Proofs.Ythcfmfkdglmkmaa
set_option linter.unusedVariables false
set_option linter.unusedSimpArgs false
open Go.ChangeShapes Go.WideShapes Go.ChangeAt Go.RowKit

def getN (fc q : Nat) (rd bi : Bool) (D : List Nat) : Int × List Nat :=
  if D.length = 2 ∧ D.getD 0 0 = fc + 128 then ((D.getD 1 0 : Nat), []) else if rd = false ∨ D.length < 2 then (0, []) else if bi = true then (0, unb (D.drop 2) q) else (0, wds (D.drop 2) (min q ((D.length - 2) / 2)))
def GetP (w : World) (p : Int × List Nat) (e : Ending) (w' : World) : Prop := ∃ a n c, e = .returned (.agg #[.int .i64 p.1, .slice a n c]) ∧ ArgW w' a n c p.2 ∧ Below w.heap.size w w'
theorem argW_none (w : World) : ArgW w Option.none 0 0 [] := ⟨⟨rfl, by unfold maxLen; omega, by simp, .inl rfl⟩, fun _ => ⟨rfl, rfl⟩, Nat.le_refl _, Nat.zero_le _⟩
theorem unbp_arg {w w' : World} {L : List Nat} {e : Ending} (h : UnbP w L e w') (hb : ∀ v ∈ L, v < 65536) (hl : L.length ≤ 100000) : ∃ g, e = .returned (.slice (some ⟨g, 0, none⟩) L.length L.length) ∧ ArgW w' (some ⟨g, 0, none⟩) L.length L.length L ∧ w.heap.size ≤ g ∧ Below w.heap.size w w' := by
  obtain ⟨g, rfl, hg, hs, hbe⟩ := h
  refine ⟨g, rfl, ⟨⟨rfl, by unfold maxLen; omega, hb, .inr ⟨g, 0, rfl, ?_, fun i hi => ?_⟩⟩, (fun e => by cases e), Nat.le_refl _, by unfold maxLen; omega⟩, hs, hbe⟩
  · exact blk_lt hg
  · have := wv_get L i hi
    simp [World.cell?, hg, this]
theorem st2_block {w : World} {g : Nat} {t : TypeId} {v0 v1 : Value} (hb : w.heap[g]? = some (.cells #[v0, v1] t (0, 0))) (a b : Value) : ((w.setCell ⟨g, 0, none⟩ a).setCell ⟨g, 1, none⟩ b).heap[g]? = some (.cells #[a, b] t (0, 0)) := by
  have q := set_blockq (set_blockq hb 0 a) 1 b
  simpa using q
theorem st2_below {w0 w : World} {B g : Nat} (hh : Below B w0 w) (hg : B ≤ g) (a b : Value) : Below B w0 ((w.setCell ⟨g, 0, none⟩ a).setCell ⟨g, 1, none⟩ b) :=
  ((hh.setCell (p := ⟨g, 0, none⟩) hg _).setCell (p := ⟨g, 1, none⟩) hg _)
def w4 (W1 : World) (u : Value) : World := W1.alloc (.cells #[u] 27 (0, 0))
theorem w4_bel (W1 : World) (u : Value) : Below W1.heap.size W1 (w4 W1 u) := alloc_bq W1 _
theorem w4_new (W1 : World) (u : Value) : (w4 W1 u).heap[W1.heap.size]? = some (.cells #[u] 27 (0, 0)) := heap_alloc_new W1 _
theorem unb_lt (L : List Nat) (n : Nat) : ∀ v ∈ unb L n, v < 65536 := by
  intro v hv
  obtain ⟨i, _, rfl⟩ := List.mem_map.1 hv
  unfold bt
  omega
theorem st2_at (w : World) {g k : Nat} (h : k ≠ g) (a b : Value) : ((w.setCell ⟨g, 0, none⟩ a).setCell ⟨g, 1, none⟩ b).heap[k]? = w.heap[k]? :=
  (Below.heap_setCell _ _ _ _ h).trans (Below.heap_setCell _ _ _ _ h)
theorem ArgW.hop {w w' : World} {g n c : Nat} {L : List Nat} (h : ArgW w (some ⟨g, 0, none⟩) n c L) (hs : w.heap.size ≤ w'.heap.size) (hb : w'.heap[g]? = w.heap[g]?) : ArgW w' (some ⟨g, 0, none⟩) n c L := by
  refine ⟨⟨h.row.ln, h.row.le, h.row.by', ?_⟩, h.nil, h.le, h.mx⟩
  rcases h.row.at' with z | ⟨b, off, e, hlt, hc⟩
  · exact .inl z
  · simp only [Option.some.injEq, Addr.mk.injEq, and_true] at e
    obtain ⟨rfl, rfl⟩ := e
    exact .inr ⟨_, _, rfl, Nat.lt_of_lt_of_le hlt hs, fun i hi => (World.cell?_of_block (a := ⟨_, _, none⟩) hb).trans (hc i hi)⟩
theorem cell1 {w : World} {b : Nat} {t : TypeId} {x : Value} (h : w.heap[b]? = some (.cells #[x] t (0, 0))) : w.cell? ⟨b, 0, none⟩ = some x := by simp [World.cell?, h]
set_option maxRecDepth 100000 in
set_option maxHeartbeats 20000000 in
theorem getA_any (r : Rq) (rd bi : Bool) (a : Option Addr) (n cap : Nat) (D : List Nat) (w : World) (h : ArgB w a n cap D) (hn : n ≤ 100000) (hf : 0 ≤ r.fc ∧ r.fc ≤ 127) (hq : 0 ≤ r.q ∧ r.q ≤ 2000) :
    Calls Try.prog 21 #[av r rd bi, .slice a n cap] w (GetP w (getN r.fc.toNat r.q.toNat rd bi D)) := by
  obtain ⟨P, hP⟩ : ∃ P, P = (GetP w (getN r.fc.toNat r.q.toNat rd bi D) : Ending → World → Prop) := ⟨_, rfl⟩
  rw [← hP]
  have HP := Lib.hid hP
  obtain ⟨fc, ad, q, vs, vn, vc, V, rto⟩ := r
  simp only at hf hq HP
  obtain ⟨fc, rfl⟩ : ∃ k : Nat, fc = (k : Int) := ⟨fc.toNat, by omega⟩
  obtain ⟨q, rfl⟩ : ∃ k : Nat, q = (k : Int) := ⟨q.toNat, by omega⟩
  simp only [av, Int.toNat_natCast] at hf hq HP ⊢
  have hln := h.row.ln
  have hcap := h.le
  have hcm := h.mx
  unfold maxLen at hcm
  have H := Lib.hid h
  have HN := Lib.hid hn
  have HLN := Lib.hid hln
  have k1 := alloc_bq w (.cells #[.int .i64 (fc : Int), .int .i64 ad, .int .i64 (q : Int), .slice vs vn vc, .int .i64 rto, .bool rd, .bool bi] 46 (0, 0))
  have k2 := alloc_bq (w.alloc (.cells #[.int .i64 (fc : Int), .int .i64 ad, .int .i64 (q : Int), .slice vs vn vc, .int .i64 rto, .bool rd, .bool bi] 46 (0, 0))) (.cells #[.int .i64 0, .slice none 0 0] 26 (0, 0))
  have bw := k1.trans (k2.mono k1.size)
  have hx := low_of k2 (heap_alloc_new w (.cells #[.int .i64 (fc : Int), .int .i64 ad, .int .i64 (q : Int), .slice vs vn vc, .int .i64 rto, .bool rd, .bool bi] 46 (0, 0)))
  have hy := heap_alloc_new (w.alloc (.cells #[.int .i64 (fc : Int), .int .i64 ad, .int .i64 (q : Int), .slice vs vn vc, .int .i64 rto, .bool rd, .bool bi] 46 (0, 0))) (.cells #[.int .i64 0, .slice none 0 0] 26 (0, 0))
  rw [World.size_alloc] at hy
  obtain ⟨W, hW⟩ : ∃ W, W = (w.alloc (.cells #[.int .i64 (fc : Int), .int .i64 ad, .int .i64 (q : Int), .slice vs vn vc, .int .i64 rto, .bool rd, .bool bi] 46 (0, 0))).alloc (.cells #[.int .i64 0, .slice none 0 0] 26 (0, 0)) := ⟨_, rfl⟩
  have hsz : W.heap.size = w.heap.size + 1 + 1 := by rw [hW]; simp
  rw [← hW] at bw hx hy
  have HX := Lib.hid hx
  have HY := Lib.hid hy
  have BW := Lib.hid bw
  have HW := Lib.hid hW
  have HSZ := Lib.hid hsz
  have HR := Lib.hid (h.row.below bw)
  have FIN : Hid (∀ W' x u m c M, W'.heap[w.heap.size + 1]? = some (.cells #[.int .i64 x, .slice u m c] 26 (0, 0)) → ArgW W' u m c M → Below w.heap.size w W' → getN fc q rd bi D = (x, M) → P (.returned (.agg #[.int .i64 x, .slice u m c])) W') := Lib.hid (fun W' x u m c M _ h2 h3 h4 => by
    rw [HP.out, h4]
    exact ⟨u, m, c, rfl, h2, h3⟩)
  have w128 : wrap64 ((fc : Int) + 128) = (fc : Int) + 128 := by unfold wrap64; omega
  have hGN := (rfl : getN fc q rd bi D = getN fc q rd bi D)
  conv at hGN => rhs; unfold getN
  have GN := Lib.hid hGN
  clear hP h hn k1 k2 bw hx hy hW hsz hGN hln
  have g0 : Gd W W := Below.refl _ _
  obtain ⟨p0, p1, p2, p3, p4, p5, p6⟩ := cells7 HX.out
  obtain ⟨y0, y1⟩ := cells2q HY.out
  have yf0 := froz (i := 0) HY.out
  have yf1 := froz (i := 1) HY.out
  by_cases h2 : n = 2
  · subst h2
    obtain ⟨b, off, rfl, hbl, hc⟩ := HR.out.pos (by omega)
    have c0 : W.cell? ⟨b, off, none⟩ = some (.int .u8 ((D.getD 0 0 : Nat) : Int)) := hc 0 (by omega)
    have c1 : W.cell? ⟨b, off + 1, none⟩ = some (.int .u8 ((D.getD 1 0 : Nat) : Int)) := hc 1 (by omega)
    have l0 := getD_lt HR.out.by' 0
    have l1 := getD_lt HR.out.by' 1
    generalize D.getD 0 0 = x0 at c0 l0 GN
    generalize D.getD 1 0 = x1 at c1 l1 GN
    have i0 : IntKind.i64.wrap (x0 : Int) = (x0 : Int) := IntWalk.i64_in _ (by omega)
    have i1 : IntKind.i64.wrap (x1 : Int) = (x1 : Int) := IntWalk.i64_in _ (by omega)
    clear hc
    by_cases hx : x0 = fc + 128
    · have t1 : ((x0 : Int) == (fc : Int) + 128) = true := by simp; omega
      have G1 : Hid (getN fc q rd bi D = ((x1 : Int), [])) := Lib.hid (GN.out.trans (if_pos ⟨HLN.out, hx⟩))
      clear hx
      go_enter Try.func21, Try.ntmps21
      go_upto_region 1 with fail
      rw [← HW.out]
      go_quiet (fail)
      generalize hW1 : W.drewN _ = W1
      have g1 : Gd W W1 := by rw [← hW1]; exact below_drewN (Below.refl _ _) _
      have c1 := (Below.cell (show Below W.heap.size W W1 from g1) (p := ⟨b, off + 1, none⟩) hbl).trans c1
      have hy1 := low_of g1 HY.out
      have yf0 := froz (i := 0) hy1
      have yf1 := froz (i := 1) hy1
      obtain ⟨y0, y1⟩ := cells2q hy1
      have HY1 := Lib.hid hy1
      have G1w := Lib.hid g1
      clear hW1 hy1 g1
      go_wp2_with fail
      have hB := st2_block HY1.out (.int .i64 (x1 : Int)) (.slice none 0 0)
      have hW := st2_below (BW.out.trans (Below.mono G1w.out BW.out.size)) (Nat.le_succ _) (.int .i64 (x1 : Int)) (.slice none 0 0)
      generalize (W1.setCell ⟨w.heap.size + 1, 0, none⟩ (.int .i64 (x1 : Int))).setCell ⟨w.heap.size + 1, 1, none⟩ (.slice none 0 0) = wF at hB hW ⊢
      obtain ⟨e0, e1⟩ := cells2q hB
      refine bodyPost_ret (v := .agg #[.int .i64 (x1 : Int), .slice none 0 0]) (by simp [results, Try.results21, go_sem, e0, e1]) rfl ?_
      exact FIN.out _ _ _ _ _ _ hB (argW_none _) hW G1.out
    · have t1 : ((x0 : Int) == (fc : Int) + 128) = false := by simp; omega
      have G1 : Hid (getN fc q rd bi D = _) := Lib.hid (GN.out.trans (if_neg (by intro e; exact hx e.2)))
      clear hx
      cases rd with
      | false =>
        have G2 : Hid (getN fc q false bi D = (0, [])) := Lib.hid (G1.out.trans (if_pos (.inl rfl)))
        clear GN G1
        go_enter Try.func21, Try.ntmps21
        go_upto_region 1 with fail
        rw [← HW.out]
        go_quiet (fail)
        generalize hW1 : W.drewN _ = W1
        have g1 : Gd W W1 := by rw [← hW1]; exact below_drewN (Below.refl _ _) _
        obtain ⟨p0, p1, p2, p3, p4, p5, p6⟩ := cells7 (low_of g1 HX.out)
        have hy1 := low_of g1 HY.out
        have yf0 := froz (i := 0) hy1
        have yf1 := froz (i := 1) hy1
        obtain ⟨y0, y1⟩ := cells2q hy1
        have HY1 := Lib.hid hy1
        have G1w := Lib.hid g1
        clear hW1 hy1 g1
        go_wp2_with fail
        have hB := st2_block HY1.out (.int .i64 0) (.slice none 0 0)
        have hW := st2_below (BW.out.trans (Below.mono G1w.out BW.out.size)) (Nat.le_succ _) (.int .i64 0) (.slice none 0 0)
        generalize (W1.setCell ⟨w.heap.size + 1, 0, none⟩ (.int .i64 0)).setCell ⟨w.heap.size + 1, 1, none⟩ (.slice none 0 0) = wF at hB hW ⊢
        obtain ⟨e0, e1⟩ := cells2q hB
        refine bodyPost_ret (v := .agg #[.int .i64 0, .slice none 0 0]) (by simp [results, Try.results21, go_sem, e0, e1]) rfl ?_
        exact FIN.out _ _ _ _ _ _ hB (argW_none _) hW G2.out
      | true =>
        have G2 : Hid (getN fc q true bi D = _) := Lib.hid (G1.out.trans (if_neg (by rw [HLN.out]; simp)))
        clear GN G1
        have hC : cap = 2 ∨ 2 < cap := by omega
        rcases hC with hC | hC
        · subst hC
          have SUB : Hid (∀ W', Gd W W' → Bys W' (some ⟨b, off, none⟩) 0 (D.drop 2)) := Lib.hid (fun W' g => by rw [List.drop_of_length_le (by rw [HLN.out]; omega)]; exact ⟨rfl, Nat.zero_le _, by simp, .inl rfl⟩)
          cases bi with
          | true =>
            go_enter Try.func21, Try.ntmps21
            go_upto_region 1 with fail
            rw [← HW.out]
            go_quiet (fail)
            generalize hW1 : W.drewN _ = W1
            have g1 : Gd W W1 := by rw [← hW1]; exact below_drewN (Below.refl _ _) _
            obtain ⟨p0, p1, p2, p3, p4, p5, p6⟩ := cells7 (low_of g1 HX.out)
            have G1w := Lib.hid g1
            clear hW1 g1
            go_upto_region 5 with fail
            have s1 := cell1 (heap_alloc_new W1 (.cells #[.slice none 0 0] 27 (0, 0)))
            have s2 := froz (i := 0) (heap_alloc_new W1 (.cells #[.slice none 0 0] 27 (0, 0)))
            go_upto_region 6 with fail
            clear s1 s2 p0 p1 p2 p3 p4 p5 p6
            obtain ⟨W4, hW4⟩ : ∃ W4, W4 = w4 W1 (.slice (some ⟨b, off, none⟩) (0) (0)) := ⟨_, rfl⟩
            have hW5 := hW4
            unfold w4 at hW5
            rw [← hW5]
            have g4 : Gd W W4 := by rw [hW4]; exact Gd.al _ G1w.out
            have c4 : W4.heap[W1.heap.size]? = some (.cells #[.slice (some ⟨b, off, none⟩) (0) (0)] 27 (0, 0)) := by rw [hW4]; exact w4_new _ _
            have B4 : Hid (Bys W4 (some ⟨b, off, none⟩) (0) (D.drop 2)) := Lib.hid (SUB.out W4 g4)
            have cc := cell1 c4
            have C4 := Lib.hid cc
            have CL4 := Lib.hid (blk_lt c4)
            have hx4 := low_of g4 HX.out
            have HY4 := Lib.hid (low_of g4 HY.out)
            have S4 : Hid (w.heap.size + 2 ≤ W4.heap.size) := Lib.hid (by have h5 : W.heap.size ≤ W4.heap.size := Below.size g4; have h6 := HSZ.out; omega)
            have B0 := Lib.hid (BW.out.trans (Below.mono g4 BW.out.size))
            obtain ⟨p0, p1, p2, p3, p4, p5, p6⟩ := cells7 hx4
            clear hW4 hW5 g4 c4 hx4
            go_wp2_with fail
            refine (unb_any (some ⟨b, off, none⟩) (0) (0) (D.drop 2) q W4 B4.out (by have := HN.out; omega) (by omega)).mono ?_
            rintro e w5 hU
            obtain ⟨g5, rfl, ar5, hs5, z5⟩ := unbp_arg hU (unb_lt _ _) (by rw [unb_len]; omega)
            rw [unb_len] at ar5 ⊢
            have hy5 := low_of z5 HY4.out
            have yf0 := froz (i := 0) hy5
            have yf1 := froz (i := 1) hy5
            have HY5 := Lib.hid hy5
            obtain ⟨y0, y1⟩ := cells2q hy5
            have B5 := Lib.hid (B0.out.trans (Below.mono z5 B0.out.size))
            have A5 := Lib.hid ar5
            have S5 := Lib.hid hs5
            clear hy5 hU ar5 hs5 z5
            go_wp2_with fail
            have hB := st2_block HY5.out (.int .i64 0) (.slice (some ⟨g5, 0, none⟩) q q)
            have hW := st2_below B5.out (Nat.le_succ _) (.int .i64 0) (.slice (some ⟨g5, 0, none⟩) q q)
            have hne : g5 ≠ w.heap.size + 1 := by have := S5.out; have := S4.out; omega
            have hA := A5.out.hop (w' := (w5.setCell ⟨w.heap.size + 1, 0, none⟩ (.int .i64 0)).setCell ⟨w.heap.size + 1, 1, none⟩ (.slice (some ⟨g5, 0, none⟩) q q)) (by simp [World.setCell]) (st2_at w5 hne _ _)
            generalize (w5.setCell ⟨w.heap.size + 1, 0, none⟩ (.int .i64 0)).setCell ⟨w.heap.size + 1, 1, none⟩ (.slice (some ⟨g5, 0, none⟩) q q) = wF at hB hW hA ⊢
            obtain ⟨e0, e1⟩ := cells2q hB
            refine bodyPost_ret (v := .agg #[.int .i64 0, .slice (some ⟨g5, 0, none⟩) q q]) (by simp [results, Try.results21, go_sem, e0, e1]) rfl ?_
            exact FIN.out _ _ _ _ _ _ hB hA hW (G2.out.trans (by simp))
          | false =>
            have mi0 : (if 0 < q then (0 : Int) else (q : Int)) = 0 := by split <;> omega
            go_enter Try.func21, Try.ntmps21
            go_upto_region 1 with fail
            rw [← HW.out]
            go_quiet (fail)
            generalize hW1 : W.drewN _ = W1
            have g1 : Gd W W1 := by rw [← hW1]; exact below_drewN (Below.refl _ _) _
            obtain ⟨p0, p1, p2, p3, p4, p5, p6⟩ := cells7 (low_of g1 HX.out)
            have G1w := Lib.hid g1
            clear hW1 g1
            go_upto_region 5 with fail
            have s1 := cell1 (heap_alloc_new W1 (.cells #[.slice none 0 0] 27 (0, 0)))
            have s2 := froz (i := 0) (heap_alloc_new W1 (.cells #[.slice none 0 0] 27 (0, 0)))
            go_upto_region 6 with fail
            clear s1 s2 p0 p1 p2 p3 p4 p5 p6
            obtain ⟨W4, hW4⟩ : ∃ W4, W4 = w4 W1 (.slice (some ⟨b, off, none⟩) (0) (0)) := ⟨_, rfl⟩
            have hW5 := hW4
            unfold w4 at hW5
            rw [← hW5]
            have g4 : Gd W W4 := by rw [hW4]; exact Gd.al _ G1w.out
            have c4 : W4.heap[W1.heap.size]? = some (.cells #[.slice (some ⟨b, off, none⟩) (0) (0)] 27 (0, 0)) := by rw [hW4]; exact w4_new _ _
            have B4 : Hid (Bys W4 (some ⟨b, off, none⟩) (0) (D.drop 2)) := Lib.hid (SUB.out W4 g4)
            have cc := cell1 c4
            have C4 := Lib.hid cc
            have CL4 := Lib.hid (blk_lt c4)
            have hx4 := low_of g4 HX.out
            have HY4 := Lib.hid (low_of g4 HY.out)
            have S4 : Hid (w.heap.size + 2 ≤ W4.heap.size) := Lib.hid (by have h5 : W.heap.size ≤ W4.heap.size := Below.size g4; have h6 := HSZ.out; omega)
            have B0 := Lib.hid (BW.out.trans (Below.mono g4 BW.out.size))
            obtain ⟨p0, p1, p2, p3, p4, p5, p6⟩ := cells7 hx4
            clear hW4 hW5 g4 c4 hx4
            go_wp2_with fail
            have FA : Calls Try.prog 35 #[.int .i64 0, .func (.func 36) #[] #[.pointer (some ⟨W1.heap.size, 0, none⟩)]] W4 (UnbP W4 (wds (D.drop 2) 0)) := fill_any 0 W1.heap.size (some ⟨b, off, none⟩) (0) (0) (D.drop 2) W4 C4.out CL4.out B4.out (by omega) (by omega)
            refine FA.mono ?_
            rintro e w5 hU
            obtain ⟨g5, rfl, ar5, hs5, z5⟩ := unbp_arg hU (wds_lt B4.out.by' _) (by rw [wds_len]; omega)
            rw [wds_len] at ar5 ⊢
            have hy5 := low_of z5 HY4.out
            have yf0 := froz (i := 0) hy5
            have yf1 := froz (i := 1) hy5
            have HY5 := Lib.hid hy5
            obtain ⟨y0, y1⟩ := cells2q hy5
            have B5 := Lib.hid (B0.out.trans (Below.mono z5 B0.out.size))
            have A5 := Lib.hid ar5
            have S5 := Lib.hid hs5
            clear hy5 hU ar5 hs5 z5
            go_wp2_with fail
            have hB := st2_block HY5.out (.int .i64 0) (.slice (some ⟨g5, 0, none⟩) 0 0)
            have hW := st2_below B5.out (Nat.le_succ _) (.int .i64 0) (.slice (some ⟨g5, 0, none⟩) 0 0)
            have hne : g5 ≠ w.heap.size + 1 := by have := S5.out; have := S4.out; omega
            have hA := A5.out.hop (w' := (w5.setCell ⟨w.heap.size + 1, 0, none⟩ (.int .i64 0)).setCell ⟨w.heap.size + 1, 1, none⟩ (.slice (some ⟨g5, 0, none⟩) 0 0)) (by simp [World.setCell]) (st2_at w5 hne _ _)
            generalize (w5.setCell ⟨w.heap.size + 1, 0, none⟩ (.int .i64 0)).setCell ⟨w.heap.size + 1, 1, none⟩ (.slice (some ⟨g5, 0, none⟩) 0 0) = wF at hB hW hA ⊢
            obtain ⟨e0, e1⟩ := cells2q hB
            refine bodyPost_ret (v := .agg #[.int .i64 0, .slice (some ⟨g5, 0, none⟩) 0 0]) (by simp [results, Try.results21, go_sem, e0, e1]) rfl ?_
            exact FIN.out _ _ _ _ _ _ hB hA hW (G2.out.trans (by rw [HLN.out]; simp))
        · have SUB : Hid (∀ W', Gd W W' → Bys W' (some ⟨b, off + 2, none⟩) 0 (D.drop 2)) := Lib.hid (fun W' g => by rw [List.drop_of_length_le (by rw [HLN.out]; omega)]; exact ⟨rfl, Nat.zero_le _, by simp, .inl rfl⟩)
          cases bi with
          | true =>
            go_enter Try.func21, Try.ntmps21
            go_upto_region 1 with fail
            rw [← HW.out]
            go_quiet (fail)
            generalize hW1 : W.drewN _ = W1
            have g1 : Gd W W1 := by rw [← hW1]; exact below_drewN (Below.refl _ _) _
            obtain ⟨p0, p1, p2, p3, p4, p5, p6⟩ := cells7 (low_of g1 HX.out)
            have G1w := Lib.hid g1
            clear hW1 g1
            go_upto_region 5 with fail
            have s1 := cell1 (heap_alloc_new W1 (.cells #[.slice none 0 0] 27 (0, 0)))
            have s2 := froz (i := 0) (heap_alloc_new W1 (.cells #[.slice none 0 0] 27 (0, 0)))
            go_upto_region 6 with fail
            clear s1 s2 p0 p1 p2 p3 p4 p5 p6
            obtain ⟨W4, hW4⟩ : ∃ W4, W4 = w4 W1 (.slice (some ⟨b, off + 2, none⟩) (0) (cap - 2)) := ⟨_, rfl⟩
            have hW5 := hW4
            unfold w4 at hW5
            rw [← hW5]
            have g4 : Gd W W4 := by rw [hW4]; exact Gd.al _ G1w.out
            have c4 : W4.heap[W1.heap.size]? = some (.cells #[.slice (some ⟨b, off + 2, none⟩) (0) (cap - 2)] 27 (0, 0)) := by rw [hW4]; exact w4_new _ _
            have B4 : Hid (Bys W4 (some ⟨b, off + 2, none⟩) (0) (D.drop 2)) := Lib.hid (SUB.out W4 g4)
            have cc := cell1 c4
            have C4 := Lib.hid cc
            have CL4 := Lib.hid (blk_lt c4)
            have hx4 := low_of g4 HX.out
            have HY4 := Lib.hid (low_of g4 HY.out)
            have S4 : Hid (w.heap.size + 2 ≤ W4.heap.size) := Lib.hid (by have h5 : W.heap.size ≤ W4.heap.size := Below.size g4; have h6 := HSZ.out; omega)
            have B0 := Lib.hid (BW.out.trans (Below.mono g4 BW.out.size))
            obtain ⟨p0, p1, p2, p3, p4, p5, p6⟩ := cells7 hx4
            clear hW4 hW5 g4 c4 hx4
            go_wp2_with fail
            refine (unb_any (some ⟨b, off + 2, none⟩) (0) (cap - 2) (D.drop 2) q W4 B4.out (by have := HN.out; omega) (by omega)).mono ?_
            rintro e w5 hU
            obtain ⟨g5, rfl, ar5, hs5, z5⟩ := unbp_arg hU (unb_lt _ _) (by rw [unb_len]; omega)
            rw [unb_len] at ar5 ⊢
            have hy5 := low_of z5 HY4.out
            have yf0 := froz (i := 0) hy5
            have yf1 := froz (i := 1) hy5
            have HY5 := Lib.hid hy5
            obtain ⟨y0, y1⟩ := cells2q hy5
            have B5 := Lib.hid (B0.out.trans (Below.mono z5 B0.out.size))
            have A5 := Lib.hid ar5
            have S5 := Lib.hid hs5
            clear hy5 hU ar5 hs5 z5
            go_wp2_with fail
            have hB := st2_block HY5.out (.int .i64 0) (.slice (some ⟨g5, 0, none⟩) q q)
            have hW := st2_below B5.out (Nat.le_succ _) (.int .i64 0) (.slice (some ⟨g5, 0, none⟩) q q)
            have hne : g5 ≠ w.heap.size + 1 := by have := S5.out; have := S4.out; omega
            have hA := A5.out.hop (w' := (w5.setCell ⟨w.heap.size + 1, 0, none⟩ (.int .i64 0)).setCell ⟨w.heap.size + 1, 1, none⟩ (.slice (some ⟨g5, 0, none⟩) q q)) (by simp [World.setCell]) (st2_at w5 hne _ _)
            generalize (w5.setCell ⟨w.heap.size + 1, 0, none⟩ (.int .i64 0)).setCell ⟨w.heap.size + 1, 1, none⟩ (.slice (some ⟨g5, 0, none⟩) q q) = wF at hB hW hA ⊢
            obtain ⟨e0, e1⟩ := cells2q hB
            refine bodyPost_ret (v := .agg #[.int .i64 0, .slice (some ⟨g5, 0, none⟩) q q]) (by simp [results, Try.results21, go_sem, e0, e1]) rfl ?_
            exact FIN.out _ _ _ _ _ _ hB hA hW (G2.out.trans (by simp))
          | false =>
            have mi0 : (if 0 < q then (0 : Int) else (q : Int)) = 0 := by split <;> omega
            go_enter Try.func21, Try.ntmps21
            go_upto_region 1 with fail
            rw [← HW.out]
            go_quiet (fail)
            generalize hW1 : W.drewN _ = W1
            have g1 : Gd W W1 := by rw [← hW1]; exact below_drewN (Below.refl _ _) _
            obtain ⟨p0, p1, p2, p3, p4, p5, p6⟩ := cells7 (low_of g1 HX.out)
            have G1w := Lib.hid g1
            clear hW1 g1
            go_upto_region 5 with fail
            have s1 := cell1 (heap_alloc_new W1 (.cells #[.slice none 0 0] 27 (0, 0)))
            have s2 := froz (i := 0) (heap_alloc_new W1 (.cells #[.slice none 0 0] 27 (0, 0)))
            go_upto_region 6 with fail
            clear s1 s2 p0 p1 p2 p3 p4 p5 p6
            obtain ⟨W4, hW4⟩ : ∃ W4, W4 = w4 W1 (.slice (some ⟨b, off + 2, none⟩) (0) (cap - 2)) := ⟨_, rfl⟩
            have hW5 := hW4
            unfold w4 at hW5
            rw [← hW5]
            have g4 : Gd W W4 := by rw [hW4]; exact Gd.al _ G1w.out
            have c4 : W4.heap[W1.heap.size]? = some (.cells #[.slice (some ⟨b, off + 2, none⟩) (0) (cap - 2)] 27 (0, 0)) := by rw [hW4]; exact w4_new _ _
            have B4 : Hid (Bys W4 (some ⟨b, off + 2, none⟩) (0) (D.drop 2)) := Lib.hid (SUB.out W4 g4)
            have cc := cell1 c4
            have C4 := Lib.hid cc
            have CL4 := Lib.hid (blk_lt c4)
            have hx4 := low_of g4 HX.out
            have HY4 := Lib.hid (low_of g4 HY.out)
            have S4 : Hid (w.heap.size + 2 ≤ W4.heap.size) := Lib.hid (by have h5 : W.heap.size ≤ W4.heap.size := Below.size g4; have h6 := HSZ.out; omega)
            have B0 := Lib.hid (BW.out.trans (Below.mono g4 BW.out.size))
            obtain ⟨p0, p1, p2, p3, p4, p5, p6⟩ := cells7 hx4
            clear hW4 hW5 g4 c4 hx4
            go_wp2_with fail
            have FA : Calls Try.prog 35 #[.int .i64 0, .func (.func 36) #[] #[.pointer (some ⟨W1.heap.size, 0, none⟩)]] W4 (UnbP W4 (wds (D.drop 2) 0)) := fill_any 0 W1.heap.size (some ⟨b, off + 2, none⟩) (0) (cap - 2) (D.drop 2) W4 C4.out CL4.out B4.out (by omega) (by omega)
            refine FA.mono ?_
            rintro e w5 hU
            obtain ⟨g5, rfl, ar5, hs5, z5⟩ := unbp_arg hU (wds_lt B4.out.by' _) (by rw [wds_len]; omega)
            rw [wds_len] at ar5 ⊢
            have hy5 := low_of z5 HY4.out
            have yf0 := froz (i := 0) hy5
            have yf1 := froz (i := 1) hy5
            have HY5 := Lib.hid hy5
            obtain ⟨y0, y1⟩ := cells2q hy5
            have B5 := Lib.hid (B0.out.trans (Below.mono z5 B0.out.size))
            have A5 := Lib.hid ar5
            have S5 := Lib.hid hs5
            clear hy5 hU ar5 hs5 z5
            go_wp2_with fail
            have hB := st2_block HY5.out (.int .i64 0) (.slice (some ⟨g5, 0, none⟩) 0 0)
            have hW := st2_below B5.out (Nat.le_succ _) (.int .i64 0) (.slice (some ⟨g5, 0, none⟩) 0 0)
            have hne : g5 ≠ w.heap.size + 1 := by have := S5.out; have := S4.out; omega
            have hA := A5.out.hop (w' := (w5.setCell ⟨w.heap.size + 1, 0, none⟩ (.int .i64 0)).setCell ⟨w.heap.size + 1, 1, none⟩ (.slice (some ⟨g5, 0, none⟩) 0 0)) (by simp [World.setCell]) (st2_at w5 hne _ _)
            generalize (w5.setCell ⟨w.heap.size + 1, 0, none⟩ (.int .i64 0)).setCell ⟨w.heap.size + 1, 1, none⟩ (.slice (some ⟨g5, 0, none⟩) 0 0) = wF at hB hW hA ⊢
            obtain ⟨e0, e1⟩ := cells2q hB
            refine bodyPost_ret (v := .agg #[.int .i64 0, .slice (some ⟨g5, 0, none⟩) 0 0]) (by simp [results, Try.results21, go_sem, e0, e1]) rfl ?_
            exact FIN.out _ _ _ _ _ _ hB hA hW (G2.out.trans (by rw [HLN.out]; simp))
  · have G1 : Hid (getN fc q rd bi D = _) := Lib.hid (GN.out.trans (if_neg (by intro e; exact h2 (HLN.out.symm.trans e.1))))
    have n2 : ((n : Int) == 2) = false := by simp; omega
    cases rd with
    | false =>
      have G2 : Hid (getN fc q false bi D = (0, [])) := Lib.hid (G1.out.trans (if_pos (.inl rfl)))
      clear GN G1
      go_enter Try.func21, Try.ntmps21
      go_upto_region 1 with fail
      rw [← HW.out]
      go_quiet (fail)
      generalize hW1 : W.drewN _ = W1
      have g1 : Gd W W1 := by rw [← hW1]; exact below_drewN (Below.refl _ _) _
      obtain ⟨p0, p1, p2, p3, p4, p5, p6⟩ := cells7 (low_of g1 HX.out)
      have hy1 := low_of g1 HY.out
      have yf0 := froz (i := 0) hy1
      have yf1 := froz (i := 1) hy1
      obtain ⟨y0, y1⟩ := cells2q hy1
      have HY1 := Lib.hid hy1
      have G1w := Lib.hid g1
      clear hW1 hy1 g1
      go_wp2_with fail
      have hB := st2_block HY1.out (.int .i64 0) (.slice none 0 0)
      have hW := st2_below (BW.out.trans (Below.mono G1w.out BW.out.size)) (Nat.le_succ _) (.int .i64 0) (.slice none 0 0)
      generalize (W1.setCell ⟨w.heap.size + 1, 0, none⟩ (.int .i64 0)).setCell ⟨w.heap.size + 1, 1, none⟩ (.slice none 0 0) = wF at hB hW ⊢
      obtain ⟨e0, e1⟩ := cells2q hB
      refine bodyPost_ret (v := .agg #[.int .i64 0, .slice none 0 0]) (by simp [results, Try.results21, go_sem, e0, e1]) rfl ?_
      exact FIN.out _ _ _ _ _ _ hB (argW_none _) hW G2.out
    | true =>
      by_cases h3 : n < 2
      · have G2 : Hid (getN fc q true bi D = (0, [])) := Lib.hid (G1.out.trans (if_pos (.inr (by rw [HLN.out]; exact h3))))
        clear GN G1
        go_enter Try.func21, Try.ntmps21
        go_upto_region 1 with fail
        rw [← HW.out]
        go_quiet (fail)
        generalize hW1 : W.drewN _ = W1
        have g1 : Gd W W1 := by rw [← hW1]; exact below_drewN (Below.refl _ _) _
        obtain ⟨p0, p1, p2, p3, p4, p5, p6⟩ := cells7 (low_of g1 HX.out)
        have hy1 := low_of g1 HY.out
        have yf0 := froz (i := 0) hy1
        have yf1 := froz (i := 1) hy1
        obtain ⟨y0, y1⟩ := cells2q hy1
        have HY1 := Lib.hid hy1
        have G1w := Lib.hid g1
        clear hW1 hy1 g1
        go_wp2_with fail
        have hB := st2_block HY1.out (.int .i64 0) (.slice none 0 0)
        have hW := st2_below (BW.out.trans (Below.mono G1w.out BW.out.size)) (Nat.le_succ _) (.int .i64 0) (.slice none 0 0)
        generalize (W1.setCell ⟨w.heap.size + 1, 0, none⟩ (.int .i64 0)).setCell ⟨w.heap.size + 1, 1, none⟩ (.slice none 0 0) = wF at hB hW ⊢
        obtain ⟨e0, e1⟩ := cells2q hB
        refine bodyPost_ret (v := .agg #[.int .i64 0, .slice none 0 0]) (by simp [results, Try.results21, go_sem, e0, e1]) rfl ?_
        exact FIN.out _ _ _ _ _ _ hB (argW_none _) hW G2.out
      · have G2 : Hid (getN fc q true bi D = _) := Lib.hid (G1.out.trans (if_neg (by rw [HLN.out]; simp; omega)))
        clear GN G1
        obtain ⟨b, off, rfl, hbl, hc⟩ := HR.out.pos (by omega)
        have hC : 2 < cap := by omega
        have SUB : Hid (∀ W', Gd W W' → Bys W' (some ⟨b, off + 2, none⟩) (n - 2) (D.drop 2)) := Lib.hid (fun W' g => by have := (HR.out.below g).sub 2 (n - 2) (by omega); rwa [List.take_of_length_le (by rw [List.length_drop, HLN.out]; omega)] at this)
        clear hc
        cases bi with
        | true =>
          go_enter Try.func21, Try.ntmps21
          go_upto_region 1 with fail
          rw [← HW.out]
          go_quiet (fail)
          generalize hW1 : W.drewN _ = W1
          have g1 : Gd W W1 := by rw [← hW1]; exact below_drewN (Below.refl _ _) _
          obtain ⟨p0, p1, p2, p3, p4, p5, p6⟩ := cells7 (low_of g1 HX.out)
          have G1w := Lib.hid g1
          clear hW1 g1
          go_upto_region 5 with fail
          have s1 := cell1 (heap_alloc_new W1 (.cells #[.slice none 0 0] 27 (0, 0)))
          have s2 := froz (i := 0) (heap_alloc_new W1 (.cells #[.slice none 0 0] 27 (0, 0)))
          go_upto_region 6 with fail
          clear s1 s2 p0 p1 p2 p3 p4 p5 p6
          obtain ⟨W4, hW4⟩ : ∃ W4, W4 = w4 W1 (.slice (some ⟨b, off + 2, none⟩) (n - 2) (cap - 2)) := ⟨_, rfl⟩
          have hW5 := hW4
          unfold w4 at hW5
          rw [← hW5]
          have g4 : Gd W W4 := by rw [hW4]; exact Gd.al _ G1w.out
          have c4 : W4.heap[W1.heap.size]? = some (.cells #[.slice (some ⟨b, off + 2, none⟩) (n - 2) (cap - 2)] 27 (0, 0)) := by rw [hW4]; exact w4_new _ _
          have B4 : Hid (Bys W4 (some ⟨b, off + 2, none⟩) (n - 2) (D.drop 2)) := Lib.hid (SUB.out W4 g4)
          have cc := cell1 c4
          have C4 := Lib.hid cc
          have CL4 := Lib.hid (blk_lt c4)
          have hx4 := low_of g4 HX.out
          have HY4 := Lib.hid (low_of g4 HY.out)
          have S4 : Hid (w.heap.size + 2 ≤ W4.heap.size) := Lib.hid (by have h5 : W.heap.size ≤ W4.heap.size := Below.size g4; have h6 := HSZ.out; omega)
          have B0 := Lib.hid (BW.out.trans (Below.mono g4 BW.out.size))
          obtain ⟨p0, p1, p2, p3, p4, p5, p6⟩ := cells7 hx4
          clear hW4 hW5 g4 c4 hx4
          go_wp2_with fail
          refine (unb_any (some ⟨b, off + 2, none⟩) (n - 2) (cap - 2) (D.drop 2) q W4 B4.out (by have := HN.out; omega) (by omega)).mono ?_
          rintro e w5 hU
          obtain ⟨g5, rfl, ar5, hs5, z5⟩ := unbp_arg hU (unb_lt _ _) (by rw [unb_len]; omega)
          rw [unb_len] at ar5 ⊢
          have hy5 := low_of z5 HY4.out
          have yf0 := froz (i := 0) hy5
          have yf1 := froz (i := 1) hy5
          have HY5 := Lib.hid hy5
          obtain ⟨y0, y1⟩ := cells2q hy5
          have B5 := Lib.hid (B0.out.trans (Below.mono z5 B0.out.size))
          have A5 := Lib.hid ar5
          have S5 := Lib.hid hs5
          clear hy5 hU ar5 hs5 z5
          go_wp2_with fail
          have hB := st2_block HY5.out (.int .i64 0) (.slice (some ⟨g5, 0, none⟩) q q)
          have hW := st2_below B5.out (Nat.le_succ _) (.int .i64 0) (.slice (some ⟨g5, 0, none⟩) q q)
          have hne : g5 ≠ w.heap.size + 1 := by have := S5.out; have := S4.out; omega
          have hA := A5.out.hop (w' := (w5.setCell ⟨w.heap.size + 1, 0, none⟩ (.int .i64 0)).setCell ⟨w.heap.size + 1, 1, none⟩ (.slice (some ⟨g5, 0, none⟩) q q)) (by simp [World.setCell]) (st2_at w5 hne _ _)
          generalize (w5.setCell ⟨w.heap.size + 1, 0, none⟩ (.int .i64 0)).setCell ⟨w.heap.size + 1, 1, none⟩ (.slice (some ⟨g5, 0, none⟩) q q) = wF at hB hW hA ⊢
          obtain ⟨e0, e1⟩ := cells2q hB
          refine bodyPost_ret (v := .agg #[.int .i64 0, .slice (some ⟨g5, 0, none⟩) q q]) (by simp [results, Try.results21, go_sem, e0, e1]) rfl ?_
          exact FIN.out _ _ _ _ _ _ hB hA hW (G2.out.trans (by simp))
        | false =>
          obtain ⟨mm, hmm⟩ : ∃ mm, mm = min q ((n - 2) / 2) := ⟨_, rfl⟩
          have MM : Hid (2 * mm ≤ n - 2) := Lib.hid (by rw [hmm]; omega)
          have MMQ : Hid (mm = min q ((D.length - 2) / 2)) := Lib.hid (by rw [hmm, HLN.out])
          have mi : (if (((n - 2 : Nat) : Int)) / 2 < (q : Int) then ((n - 2 : Nat) : Int) / 2 else (q : Int)) = (mm : Int) := by rw [hmm]; split <;> omega
          clear hmm
          go_enter Try.func21, Try.ntmps21
          go_upto_region 1 with fail
          rw [← HW.out]
          go_quiet (fail)
          generalize hW1 : W.drewN _ = W1
          have g1 : Gd W W1 := by rw [← hW1]; exact below_drewN (Below.refl _ _) _
          obtain ⟨p0, p1, p2, p3, p4, p5, p6⟩ := cells7 (low_of g1 HX.out)
          have G1w := Lib.hid g1
          clear hW1 g1
          go_upto_region 5 with fail
          have s1 := cell1 (heap_alloc_new W1 (.cells #[.slice none 0 0] 27 (0, 0)))
          have s2 := froz (i := 0) (heap_alloc_new W1 (.cells #[.slice none 0 0] 27 (0, 0)))
          go_upto_region 6 with fail
          clear s1 s2 p0 p1 p2 p3 p4 p5 p6
          obtain ⟨W4, hW4⟩ : ∃ W4, W4 = w4 W1 (.slice (some ⟨b, off + 2, none⟩) (n - 2) (cap - 2)) := ⟨_, rfl⟩
          have hW5 := hW4
          unfold w4 at hW5
          rw [← hW5]
          have g4 : Gd W W4 := by rw [hW4]; exact Gd.al _ G1w.out
          have c4 : W4.heap[W1.heap.size]? = some (.cells #[.slice (some ⟨b, off + 2, none⟩) (n - 2) (cap - 2)] 27 (0, 0)) := by rw [hW4]; exact w4_new _ _
          have B4 : Hid (Bys W4 (some ⟨b, off + 2, none⟩) (n - 2) (D.drop 2)) := Lib.hid (SUB.out W4 g4)
          have cc := cell1 c4
          have C4 := Lib.hid cc
          have CL4 := Lib.hid (blk_lt c4)
          have hx4 := low_of g4 HX.out
          have HY4 := Lib.hid (low_of g4 HY.out)
          have S4 : Hid (w.heap.size + 2 ≤ W4.heap.size) := Lib.hid (by have h5 : W.heap.size ≤ W4.heap.size := Below.size g4; have h6 := HSZ.out; omega)
          have B0 := Lib.hid (BW.out.trans (Below.mono g4 BW.out.size))
          obtain ⟨p0, p1, p2, p3, p4, p5, p6⟩ := cells7 hx4
          clear hW4 hW5 g4 c4 hx4
          go_wp2_with fail
          refine (fill_any mm W1.heap.size (some ⟨b, off + 2, none⟩) (n - 2) (cap - 2) (D.drop 2) W4 C4.out CL4.out B4.out MM.out (by have := HN.out; omega)).mono ?_
          rintro e w5 hU
          obtain ⟨g5, rfl, ar5, hs5, z5⟩ := unbp_arg hU (wds_lt B4.out.by' _) (by rw [wds_len]; have := MM.out; have := HN.out; omega)
          rw [wds_len] at ar5 ⊢
          have hy5 := low_of z5 HY4.out
          have yf0 := froz (i := 0) hy5
          have yf1 := froz (i := 1) hy5
          have HY5 := Lib.hid hy5
          obtain ⟨y0, y1⟩ := cells2q hy5
          have B5 := Lib.hid (B0.out.trans (Below.mono z5 B0.out.size))
          have A5 := Lib.hid ar5
          have S5 := Lib.hid hs5
          clear hy5 hU ar5 hs5 z5
          go_wp2_with fail
          have hB := st2_block HY5.out (.int .i64 0) (.slice (some ⟨g5, 0, none⟩) mm mm)
          have hW := st2_below B5.out (Nat.le_succ _) (.int .i64 0) (.slice (some ⟨g5, 0, none⟩) mm mm)
          have hne : g5 ≠ w.heap.size + 1 := by have := S5.out; have := S4.out; omega
          have hA := A5.out.hop (w' := (w5.setCell ⟨w.heap.size + 1, 0, none⟩ (.int .i64 0)).setCell ⟨w.heap.size + 1, 1, none⟩ (.slice (some ⟨g5, 0, none⟩) mm mm)) (by simp [World.setCell]) (st2_at w5 hne _ _)
          generalize (w5.setCell ⟨w.heap.size + 1, 0, none⟩ (.int .i64 0)).setCell ⟨w.heap.size + 1, 1, none⟩ (.slice (some ⟨g5, 0, none⟩) mm mm) = wF at hB hW hA ⊢
          obtain ⟨e0, e1⟩ := cells2q hB
          refine bodyPost_ret (v := .agg #[.int .i64 0, .slice (some ⟨g5, 0, none⟩) mm mm]) (by simp [results, Try.results21, go_sem, e0, e1]) rfl ?_
          exact FIN.out _ _ _ _ _ _ hB hA hW (G2.out.trans (by rw [if_neg (by simp), ← MMQ.out]))
end Go.Proofs.Ythcfmfkdglmkmaa
