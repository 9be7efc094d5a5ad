/- The document's: a request as far as bytes tell one. -/
import Derived.Test.YtdolgpogjnfpkaaSv20
import Derived.Deep.RegionHeld3
namespace Go.Proofs.Ytdolgpogjnfpkaa
set_option linter.unusedVariables false
set_option linter.unusedSimpArgs false
open Go.ChangeShapes Go.WideShapes Go.ChangeAt Go.RowKit

def rdQn (L : List Nat) : Nat := if L.getD 0 0 = 5 ∨ L.getD 0 0 = 6 ∨ L.getD 0 0 = 22 then 0 else atN L 3
def rdV (L : List Nat) : List Nat :=
  if L.getD 0 0 = 5 then [if atN L 3 = 0 then 0 else 1] else if L.getD 0 0 = 6 then [atN L 3] else if L.getD 0 0 = 22 then [atN L 3, atN L 5] else
  if L.getD 0 0 = 15 ∧ 6 < L.length then unb (L.drop 6) (atN L 3) else if L.getD 0 0 = 16 ∧ 6 < L.length then unw (L.drop 6) else if L.getD 0 0 = 23 ∧ 10 < L.length then unw (L.drop 10) else []
def rdT (L : List Nat) : Nat := if L.getD 0 0 = 23 ∧ 10 < L.length then atN L 5 else 0
def ReadP (w : World) (L : List Nat) (e : Ending) (w' : World) : Prop :=
  ∃ a n c, e = .returned (.agg #[.int .i64 (L.getD 0 0 : Nat), .int .i64 (atN L 1 : Nat), .int .i64 (rdQn L : Nat), .slice a n c, .int .i64 (rdT L : Nat)]) ∧ ArgW w' a n c (rdV L) ∧ (∀ b off, a = some ⟨b, off, none⟩ → w.heap.size ≤ b) ∧ Below w.heap.size w w'
abbrev Z32 : Obj := .cells #[.int .i64 0, .int .i64 0, .int .i64 0, .slice none 0 0, .int .i64 0] 32 (0, 0)
/-- The request that is being read. -/
structure RdS (w W : World) (g : Nat) (fc ad q : Nat) (a : Option Addr) (n c : Nat) (V : List Nat) (tq : Nat) : Prop where
  R : W.heap[w.heap.size]? = some Z32
  G : W.heap[g]? = some (.cells #[.int .i64 fc, .int .i64 ad, .int .i64 q, .slice a n c, .int .i64 tq] 32 (0, 0))
  lt : w.heap.size < g
  A : ArgW W a n c V
  nw : ∀ b off, a = some ⟨b, off, none⟩ → w.heap.size ≤ b
  bel : Below w.heap.size w W
theorem argw_set1 {W : World} {r : Nat} {vs : Option Addr} {vn vc : Nat} {V : List Nat} {x0 x1 x2 x4 : Int} {us : Option Addr} {un uc : Nat} (h : ArgW W vs vn vc V) (hz : W.heap[r]? = some (.cells #[.int .i64 x0, .int .i64 x1, .int .i64 x2, .slice us un uc, .int .i64 x4] 32 (0, 0))) (i : Nat) (v : Value) : ArgW (W.setCell ⟨r, i, none⟩ v) vs vn vc V := by
  refine ⟨⟨h.row.ln, h.row.le, h.row.by', ?_⟩, h.nil, h.le, h.mx⟩
  rcases h.row.at' with z | ⟨b, off, e, hlt, hc⟩
  · exact .inl z
  · by_cases h0 : vn = 0
    · exact .inl h0
    · have hne : b ≠ r := by
        rintro rfl
        have := hc 0 (by omega)
        rw [Nat.add_zero] at this
        simp [World.cell?, hz] at this
        rcases off with _ | _ | _ | _ | _ | off <;> simp at this
      refine .inr ⟨b, off, e, by simpa [World.setCell] using hlt, fun i hi => ?_⟩
      exact (World.cell?_of_block (a := ⟨b, off + i, none⟩) (Below.heap_setCell _ _ _ _ hne)).trans (hc i hi)
theorem set_self {W : World} {g : Nat} {x0 x1 x2 x3 x4 : Value} (h : W.heap[g]? = some (.cells #[x0, x1, x2, x3, x4] 32 (0, 0))) (v : Value) :
    (W.setCell ⟨g, 2, none⟩ v).heap[g]? = some (.cells #[x0, x1, v, x3, x4] 32 (0, 0)) ∧ (W.setCell ⟨g, 3, none⟩ v).heap[g]? = some (.cells #[x0, x1, x2, v, x4] 32 (0, 0)) ∧ (W.setCell ⟨g, 4, none⟩ v).heap[g]? = some (.cells #[x0, x1, x2, x3, v] 32 (0, 0)) := by
  simp [World.setCell, Array.getElem?_modify, h]
theorem RdS.step {w W W' : World} {g fc ad q : Nat} {a : Option Addr} {n c : Nat} {V : List Nat} {tq : Nat} (h : RdS w W g fc ad q a n c V tq) (z : Below W.heap.size W W') : RdS w W' g fc ad q a n c V tq :=
  ⟨low_of z h.R, low_of z h.G, h.lt, h.A.below z, h.nw, h.bel.trans (z.mono h.bel.size)⟩
theorem RdS.setq {w W : World} {g fc ad q : Nat} {a : Option Addr} {n c : Nat} {V : List Nat} {tq : Nat} (h : RdS w W g fc ad q a n c V tq) (x : Nat) : RdS w (W.setCell ⟨g, 2, none⟩ (.int .i64 x)) g fc ad x a n c V tq :=
  ⟨(Below.heap_setCell W ⟨g, _, none⟩ _ w.heap.size (Nat.ne_of_lt h.lt)).trans h.R, (set_self h.G _).1, h.lt, argw_set1 h.A h.G _ _, h.nw, h.bel.setCell (Nat.le_of_lt h.lt) _⟩
theorem RdS.sett {w W : World} {g fc ad q : Nat} {a : Option Addr} {n c : Nat} {V : List Nat} {tq : Nat} (h : RdS w W g fc ad q a n c V tq) (x : Nat) : RdS w (W.setCell ⟨g, 4, none⟩ (.int .i64 x)) g fc ad q a n c V x :=
  ⟨(Below.heap_setCell W ⟨g, _, none⟩ _ w.heap.size (Nat.ne_of_lt h.lt)).trans h.R, (set_self h.G _).2.2, h.lt, argw_set1 h.A h.G _ _, h.nw, h.bel.setCell (Nat.le_of_lt h.lt) _⟩
theorem RdS.setv {w W : World} {g fc ad q : Nat} {a : Option Addr} {n c : Nat} {V : List Nat} {tq : Nat} (h : RdS w W g fc ad q a n c V tq) {a' : Option Addr} {n' c' : Nat} {V' : List Nat} (hA : ArgW W a' n' c' V') (hn : ∀ b off, a' = some ⟨b, off, none⟩ → w.heap.size ≤ b) : RdS w (W.setCell ⟨g, 3, none⟩ (.slice a' n' c')) g fc ad q a' n' c' V' tq :=
  ⟨(Below.heap_setCell W ⟨g, _, none⟩ _ w.heap.size (Nat.ne_of_lt h.lt)).trans h.R, (set_self h.G _).2.1, h.lt, argw_set1 hA h.G _ _, hn, h.bel.setCell (Nat.le_of_lt h.lt) _⟩
theorem set5_self {W : World} {g : Nat} {x0 x1 x2 x3 x4 : Value} {t : TypeId} (h : W.heap[g]? = some (.cells #[x0, x1, x2, x3, x4] t (0, 0))) (v0 v1 v2 v3 v4 : Value) :
    (((((W.setCell ⟨g, 0, none⟩ v0).setCell ⟨g, 1, none⟩ v1).setCell ⟨g, 2, none⟩ v2).setCell ⟨g, 3, none⟩ v3).setCell ⟨g, 4, none⟩ v4).heap[g]? = some (.cells #[v0, v1, v2, v3, v4] t (0, 0)) := by
  simp [World.setCell, Array.getElem?_modify, h]
theorem bys_drop {W : World} {b off len : Nat} {L : List Nat} (h : Bys W (some ⟨b, off, none⟩) len L) (k : Nat) (hk : k ≤ len) : Bys W (some ⟨b, off + k, none⟩) (len - k) (L.drop k) := by
  have := h.sub k (len - k) (by omega)
  rwa [List.take_of_length_le (by rw [List.length_drop, h.ln]; omega)] at this
def Ten (x : Nat) : Prop := x = 1 ∨ x = 2 ∨ x = 3 ∨ x = 4 ∨ x = 5 ∨ x = 6 ∨ x = 15 ∨ x = 16 ∨ x = 22 ∨ x = 23
set_option maxRecDepth 100000 in
set_option maxHeartbeats 8000000 in
theorem readD_any (a : Option Addr) (n c : Nat) (L : List Nat) (w : World) (h : ArgB w a n c L) (hn : n ≤ 100000) (h0 : 0 < n) (hten : Ten (L.getD 0 0)) :
    Calls Try.prog 44 #[.slice a n c] w (ReadP w L) := by
  obtain ⟨P, hP⟩ : ∃ P, P = (ReadP w L : Ending → World → Prop) := ⟨_, rfl⟩
  rw [← hP]
  have HP := Lib.hid hP
  have H := Lib.hid h
  have HLN := Lib.hid h.row.ln
  obtain ⟨b, off, rfl, hbl, hcc⟩ := h.row.pos h0
  have cb0 : w.cell? ⟨b, off, none⟩ = some (.int .u8 ((L.getD 0 0 : Nat) : Int)) := hcc 0 (by omega)
  have FIN : Hid (∀ W g q a n c V tq, RdS w W g (L.getD 0 0) (atN L 1) q a n c V tq → q = rdQn L → V = rdV L → tq = rdT L → ∀ v0 v1 v2 v3 v4, P (.returned (.agg #[.int .i64 (L.getD 0 0 : Nat), .int .i64 (atN L 1 : Nat), .int .i64 (q : Nat), .slice a n c, .int .i64 (tq : Nat)])) (((((W.setCell ⟨w.heap.size, 0, none⟩ v0).setCell ⟨w.heap.size, 1, none⟩ v1).setCell ⟨w.heap.size, 2, none⟩ v2).setCell ⟨w.heap.size, 3, none⟩ v3).setCell ⟨w.heap.size, 4, none⟩ v4)) := Lib.hid (fun W g q a n c V tq h e1 e2 e3 v0 v1 v2 v3 v4 => by
    rw [hP, e1, e3]
    exact ⟨a, n, c, rfl, by rw [← e2]; exact argw_set5 h.A h.R _ _ _ _ _, h.nw, set5_bel h.bel (Nat.le_refl _) _ _ _ _ _⟩)
  have l0 := getD_lt h.row.by' 0
  have D1 : Hid (rdQn L = if L.getD 0 0 = 5 ∨ L.getD 0 0 = 6 ∨ L.getD 0 0 = 22 then 0 else atN L 3) := Lib.hid rfl
  have D2 : Hid (rdV L = if L.getD 0 0 = 5 then [if atN L 3 = 0 then 0 else 1] else if L.getD 0 0 = 6 then [atN L 3] else if L.getD 0 0 = 22 then [atN L 3, atN L 5] else if L.getD 0 0 = 15 ∧ 6 < L.length then unb (L.drop 6) (atN L 3) else if L.getD 0 0 = 16 ∧ 6 < L.length then unw (L.drop 6) else if L.getD 0 0 = 23 ∧ 10 < L.length then unw (L.drop 10) else []) := Lib.hid rfl
  have D3 : Hid (rdT L = if L.getD 0 0 = 23 ∧ 10 < L.length then atN L 5 else 0) := Lib.hid rfl
  generalize L.getD 0 0 = x0 at hten cb0 FIN l0 D1 D2 D3
  have TEN := Lib.hid hten
  have u0 : IntKind.i64.wrap (x0 : Int) = (x0 : Int) := IntWalk.i64_in _ (by omega)
  have i0 : (0 : Int) < (n : Int) := by omega
  clear hP h hten hcc
  go_enter Try.func44, Try.ntmps44
  go_upto_region 1 with fail
  obtain ⟨W, hW⟩ : ∃ W, W = w.alloc Z32 := ⟨_, rfl⟩
  have BW := Lib.hid (show Below w.heap.size w W by rw [hW]; exact (Below.refl _ _).alloc (Nat.le_refl _) _)
  have BK := Lib.hid (show W.heap[w.heap.size]? = some Z32 by rw [hW]; exact heap_alloc_new _ _)
  have AT := Lib.hid (fun W' (hb : Below W.heap.size W W') => atD_any (some ⟨b, off, none⟩) n c L 1 W' ((H.out.row.below BW.out).below hb) hn (by omega))
  have hcw := (BW.out.cell (p := ⟨b, off, none⟩) hbl).trans cb0
  have hbW : b < W.heap.size := by have := BW.out.size; omega
  have HBW := Lib.hid hbW
  have HCW := Lib.hid hcw
  rw [← hW]
  clear hW cb0 hbl hcw hbW
  obtain ⟨ad, had⟩ : ∃ q, q = atN L 1 := ⟨_, rfl⟩
  rw [← had] at AT FIN
  go_cut [3] from 5 (fun p W' => ∃ g, p = .pointer (some ⟨g, 0, none⟩) ∧ W'.heap[g]? = some (.cells #[.int .i64 x0, .int .i64 ad, .int .i64 0, .slice none 0 0, .int .i64 0] 32 (0, 0)) ∧ W.heap.size ≤ g ∧ Below W.heap.size W W')
  case first =>
    have KS := Lib.hid (fun (w' : World) (hb : Gd W w') => (Below.cell hb (p := ⟨b, off, none⟩) HBW.out).trans HCW.out)
    have g0 : Gd W W.drew := (Below.refl _ _).drew
    clear had
    have g1 : Gd W (W.alloc (.cells #[.int .i64 0, .int .i64 0, .int .i64 0, .slice none 0 0, .int .i64 0] 32 (0, 0))).drew := ((Below.refl _ _).alloc (Nat.le_refl _) _).drew
    have z1 : (W.alloc (.cells #[.int .i64 0, .int .i64 0, .int .i64 0, .slice none 0 0, .int .i64 0] 32 (0, 0))).drew.heap[W.heap.size]? = some (.cells #[.int .i64 0, .int .i64 0, .int .i64 0, .slice none 0 0, .int .i64 0] 32 (0, 0)) := heap_alloc_new W _
    have hn1 : ¬ b = W.heap.size := by have := HBW.out; omega
    have hn2 : ¬ W.heap.size = b := by have := HBW.out; omega
    go_region_held3 (fun w' => w'.cell? ⟨b, off, none⟩ = some (.int .u8 (x0 : Int))) (first | exact KS.out _ g0 | exact KS.out _ g1 | exact KS.out _ g5 | exact KS.out _ (Gd.al _ g5) | go_keep | exact (set5_cell hn1 _ _ _ _ _).trans (KS.out _ g5)) (first
      | (go_at_call 64; refine (AT.out _ g1).mono ?_; rintro e w5 ⟨rfl, zb⟩; have g5 : Gd W w5 := Gd.step g1 zb; have cb5 := KS.out w5 g5; have hb6 : ¬ b = w5.heap.size := (by have := Below.size g5; have := HBW.out; omega); have zz := low_of zb z1; obtain ⟨y0, y1, y2, y3, y4⟩ := cells5 zz; have r0 := froz (i := 0) zz; have r1 := froz (i := 1) zz; have r2 := froz (i := 2) zz; have r3 := froz (i := 3) zz; have r4 := froz (i := 4) zz)
      | (go_at_call 64; refine (AT.out _ g0).mono ?_; rintro e w5 ⟨rfl, zb⟩; have g5 : Gd W w5 := Gd.step g0 zb; have cb5 := KS.out w5 g5; have hb6 : ¬ b = w5.heap.size := (by have := Below.size g5; have := HBW.out; omega)))
    all_goals
      first
        | (have hset := Lib.hid (set5_self zz (.int .i64 (x0 : Int)) (.int .i64 (ad : Int)) (.int .i64 0) (.slice none 0 0) (.int .i64 0))
           have hbel := Lib.hid (set5_bel g5 (Nat.le_refl _) (.int .i64 (x0 : Int)) (.int .i64 (ad : Int)) (.int .i64 0) (.slice none 0 0) (.int .i64 0))
           clear zz
           go_wp2_with fail
           go_meet
           exact ⟨W.heap.size, rfl, hset.out, Nat.le_refl _, hbel.out⟩)
        | (have hal := Lib.hid (Gd.al (.cells #[.int .i64 (x0 : Int), .int .i64 (ad : Int), .int .i64 0, .slice none 0 0, .int .i64 0] 32 (0, 0)) g5)
           have hsz := Lib.hid (Below.size g5)
           go_wp2_with fail
           go_meet
           exact ⟨w5.heap.size, rfl, heap_alloc_new _ _, hsz.out, hal.out⟩)
  case rest =>
  obtain ⟨g, rfl, hg, hgw, hbc⟩ := hcut
  obtain ⟨W1, hW⟩ : ∃ W, W = wc := ⟨_, rfl⟩
  subst hW
  have hb1 := BW.out.trans (hbc.mono BW.out.size)
  have hws : w.heap.size < W.heap.size := blk_lt BK.out
  have rs : RdS w W1 g x0 ad 0 none 0 0 [] 0 := ⟨low_of hbc BK.out, hg, Nat.lt_of_lt_of_le hws hgw, ⟨Wds.nil _ _, fun _ => ⟨rfl, rfl⟩, Nat.le_refl _, Nat.zero_le _⟩, (fun b off e => by cases e), hb1⟩
  have RS := Lib.hid rs
  have AI := Lib.hid (fun (i : Nat) (hi : i ≤ 100) W' (hb : Below w.heap.size w W') => atD_any (some ⟨b, off, none⟩) n c L i W' (H.out.row.below hb) hn (by omega))
  obtain ⟨c0, c1, c2, c3, c4⟩ := cells5 hg
  have f2 := froz (i := 2) hg
  have f3 := froz (i := 3) hg
  have l3 := atN_lt H.out.row.by' 3
  have l5 := atN_lt H.out.row.by' 5
  generalize hm3 : atN L 3 = m3 at D1 D2 l3
  generalize hm5 : atN L 5 = m5 at D2 D3 l5
  have A3 := Lib.hid (fun W' (hb : Below w.heap.size w W') => AI.out 3 (by omega) W' hb)
  have A5 := Lib.hid (fun W' (hb : Below w.heap.size w W') => AI.out 5 (by omega) W' hb)
  rw [hm3] at A3
  rw [hm5] at A5
  have w3 : IntKind.u16.wrap (m3 : Int) = (m3 : Int) := by simp [IntKind.wrap, IntKind.bits, IntKind.signed]; omega
  have w5 : IntKind.u16.wrap (m5 : Int) = (m5 : Int) := by simp [IntKind.wrap, IntKind.bits, IntKind.signed]; omega
  clear hg hgw hbc hb1 hws rs HBW HCW hm3 hm5 had BK AT
  by_cases x5 : x0 = 5
  · subst x5
    by_cases m0 : m3 = 0
    · have t0 : ((m3 : Int) != 0) = false := by simp [m0]
      go_wp2_with fail
      refine (A3.out W1 RS.out.bel).mono ?_
      rintro e w6 ⟨rfl, z0⟩
      have rs0 := Lib.hid ((RS.out).step z0)
      clear z0
      have al := alloc_bq w6 (.cells #[.int .u16 0] 34 (0, 0))
      have rsA := Lib.hid ((rs0.out).step al)
      have AN := argw_new w6 [0] (by simp) (by intro b hb; simp at hb; omega)
      have r3 := Lib.hid (rsA.out.setv AN (fun b off e => by have := (rs0.out).bel.size; simp only [Option.some.injEq, Addr.mk.injEq, and_true] at e; omega))
      have h3 : (w6.alloc (.cells #[.int .u16 0] 34 (0, 0))).frozen? ⟨g, 3, none⟩ = false := froz rsA.out.G
      obtain ⟨k0, k1, k2, k3, k4⟩ := cells5 rsA.out.G
      clear al AN c0 c1 c2 c3 c4
      go_upto_region 13 with fail
      obtain ⟨W3, hW3⟩ : ∃ W, W = (w6.alloc (.cells #[.int .u16 0] 34 (0, 0))).setCell ⟨g, 3, none⟩ (.slice (some ⟨w6.heap.size, 0, none⟩) 1 1) := ⟨_, rfl⟩
      have r4 : Hid (RdS w W3 g 5 ad 0 (some ⟨w6.heap.size, 0, none⟩) 1 1 [0] 0) := Lib.hid (by rw [hW3]; exact r3.out)
      rw [← hW3]
      clear hW3 r3 k0 k1 k2 k3 k4 h3 f2 f3
      obtain ⟨c0, c1, c2, c3, c4⟩ := cells5 r4.out.G
      obtain ⟨d0, d1, d2, d3, d4⟩ := cells5 r4.out.R
      have s0 := froz (i := 0) r4.out.R
      have s1 := froz (i := 1) r4.out.R
      have s2 := froz (i := 2) r4.out.R
      have s3 := froz (i := 3) r4.out.R
      have s4 := froz (i := 4) r4.out.R
      have F := Lib.hid (FIN.out _ g _ _ _ _ _ _ r4.out (by rw [D1.out]; simp [m0]) (by rw [D2.out]; simp [m0]) (by rw [D3.out]; simp [m0]))
      go_wp2_with fail
      exact bodyPost_ret (v := .agg #[.int .i64 (5 : Int), .int .i64 (ad : Int), .int .i64 (0 : Int), .slice (some ⟨w6.heap.size, 0, none⟩) 1 1, .int .i64 (0 : Int)]) (by simp [results, Try.results44, go_sem, d0, d1, d2, d3, d4]) rfl (F.out _ _ _ _ _)
    · have t0 : ((m3 : Int) != 0) = true := by simp; omega
      go_wp2_with fail
      refine (A3.out W1 RS.out.bel).mono ?_
      rintro e w6 ⟨rfl, z0⟩
      have rs0 := Lib.hid ((RS.out).step z0)
      clear z0
      have al := alloc_bq w6 (.cells #[.int .u16 1] 34 (0, 0))
      have rsA := Lib.hid ((rs0.out).step al)
      have AN := argw_new w6 [1] (by simp) (by intro b hb; simp at hb; omega)
      have r3 := Lib.hid (rsA.out.setv AN (fun b off e => by have := (rs0.out).bel.size; simp only [Option.some.injEq, Addr.mk.injEq, and_true] at e; omega))
      have h3 : (w6.alloc (.cells #[.int .u16 1] 34 (0, 0))).frozen? ⟨g, 3, none⟩ = false := froz rsA.out.G
      obtain ⟨k0, k1, k2, k3, k4⟩ := cells5 rsA.out.G
      clear al AN c0 c1 c2 c3 c4
      go_upto_region 13 with fail
      obtain ⟨W3, hW3⟩ : ∃ W, W = (w6.alloc (.cells #[.int .u16 1] 34 (0, 0))).setCell ⟨g, 3, none⟩ (.slice (some ⟨w6.heap.size, 0, none⟩) 1 1) := ⟨_, rfl⟩
      have r4 : Hid (RdS w W3 g 5 ad 0 (some ⟨w6.heap.size, 0, none⟩) 1 1 [1] 0) := Lib.hid (by rw [hW3]; exact r3.out)
      rw [← hW3]
      clear hW3 r3 k0 k1 k2 k3 k4 h3 f2 f3
      obtain ⟨c0, c1, c2, c3, c4⟩ := cells5 r4.out.G
      obtain ⟨d0, d1, d2, d3, d4⟩ := cells5 r4.out.R
      have s0 := froz (i := 0) r4.out.R
      have s1 := froz (i := 1) r4.out.R
      have s2 := froz (i := 2) r4.out.R
      have s3 := froz (i := 3) r4.out.R
      have s4 := froz (i := 4) r4.out.R
      have F := Lib.hid (FIN.out _ g _ _ _ _ _ _ r4.out (by rw [D1.out]; simp [m0]) (by rw [D2.out]; simp [m0]) (by rw [D3.out]; simp [m0]))
      go_wp2_with fail
      exact bodyPost_ret (v := .agg #[.int .i64 (5 : Int), .int .i64 (ad : Int), .int .i64 (0 : Int), .slice (some ⟨w6.heap.size, 0, none⟩) 1 1, .int .i64 (0 : Int)]) (by simp [results, Try.results44, go_sem, d0, d1, d2, d3, d4]) rfl (F.out _ _ _ _ _)
  by_cases x6 : x0 = 6
  · subst x6
    go_wp2_with fail
    refine (A3.out W1 RS.out.bel).mono ?_
    rintro e w6 ⟨rfl, z0⟩
    have rs0 := Lib.hid ((RS.out).step z0)
    clear z0
    have al := alloc_bq w6 (.cells #[.int .u16 (m3 : Int)] 34 (0, 0))
    have rsA := Lib.hid ((rs0.out).step al)
    have AN := argw_new w6 [m3] (by simp) (by intro b hb; simp at hb; omega)
    have r3 := Lib.hid (rsA.out.setv AN (fun b off e => by have := (rs0.out).bel.size; simp only [Option.some.injEq, Addr.mk.injEq, and_true] at e; omega))
    have h3 : (w6.alloc (.cells #[.int .u16 (m3 : Int)] 34 (0, 0))).frozen? ⟨g, 3, none⟩ = false := froz rsA.out.G
    obtain ⟨k0, k1, k2, k3, k4⟩ := cells5 rsA.out.G
    clear al AN c0 c1 c2 c3 c4
    go_upto_region 13 with fail
    obtain ⟨W3, hW3⟩ : ∃ W, W = (w6.alloc (.cells #[.int .u16 (m3 : Int)] 34 (0, 0))).setCell ⟨g, 3, none⟩ (.slice (some ⟨w6.heap.size, 0, none⟩) 1 1) := ⟨_, rfl⟩
    have r4 : Hid (RdS w W3 g 6 ad 0 (some ⟨w6.heap.size, 0, none⟩) 1 1 [m3] 0) := Lib.hid (by rw [hW3]; exact r3.out)
    rw [← hW3]
    clear hW3 r3 k0 k1 k2 k3 k4 h3 f2 f3
    obtain ⟨c0, c1, c2, c3, c4⟩ := cells5 r4.out.G
    obtain ⟨d0, d1, d2, d3, d4⟩ := cells5 r4.out.R
    have s0 := froz (i := 0) r4.out.R
    have s1 := froz (i := 1) r4.out.R
    have s2 := froz (i := 2) r4.out.R
    have s3 := froz (i := 3) r4.out.R
    have s4 := froz (i := 4) r4.out.R
    have F := Lib.hid (FIN.out _ g _ _ _ _ _ _ r4.out (by rw [D1.out]; simp) (by rw [D2.out]; simp) (by rw [D3.out]; simp))
    go_wp2_with fail
    exact bodyPost_ret (v := .agg #[.int .i64 (6 : Int), .int .i64 (ad : Int), .int .i64 (0 : Int), .slice (some ⟨w6.heap.size, 0, none⟩) 1 1, .int .i64 (0 : Int)]) (by simp [results, Try.results44, go_sem, d0, d1, d2, d3, d4]) rfl (F.out _ _ _ _ _)
  by_cases x22 : x0 = 22
  · subst x22
    go_wp2_with fail
    refine (A3.out W1 RS.out.bel).mono ?_
    rintro e w6 ⟨rfl, z0⟩
    have rs0 := Lib.hid ((RS.out).step z0)
    clear z0
    go_wp2_with fail
    refine (A5.out w6 rs0.out.bel).mono ?_
    rintro e w7 ⟨rfl, z1⟩
    have rs1 := Lib.hid ((rs0.out).step z1)
    clear z1
    have al := alloc_bq w7 (.cells #[.int .u16 (m3 : Int), .int .u16 (m5 : Int)] 34 (0, 0))
    have rsA := Lib.hid ((rs1.out).step al)
    have AN := argw_new w7 [m3, m5] (by simp) (by intro b hb; simp at hb; omega)
    have r3 := Lib.hid (rsA.out.setv AN (fun b off e => by have := (rs1.out).bel.size; simp only [Option.some.injEq, Addr.mk.injEq, and_true] at e; omega))
    have h3 : (w7.alloc (.cells #[.int .u16 (m3 : Int), .int .u16 (m5 : Int)] 34 (0, 0))).frozen? ⟨g, 3, none⟩ = false := froz rsA.out.G
    obtain ⟨k0, k1, k2, k3, k4⟩ := cells5 rsA.out.G
    clear al AN c0 c1 c2 c3 c4
    go_upto_region 13 with fail
    obtain ⟨W3, hW3⟩ : ∃ W, W = (w7.alloc (.cells #[.int .u16 (m3 : Int), .int .u16 (m5 : Int)] 34 (0, 0))).setCell ⟨g, 3, none⟩ (.slice (some ⟨w7.heap.size, 0, none⟩) 2 2) := ⟨_, rfl⟩
    have r4 : Hid (RdS w W3 g 22 ad 0 (some ⟨w7.heap.size, 0, none⟩) 2 2 [m3, m5] 0) := Lib.hid (by rw [hW3]; exact r3.out)
    rw [← hW3]
    clear hW3 r3 k0 k1 k2 k3 k4 h3 f2 f3
    obtain ⟨c0, c1, c2, c3, c4⟩ := cells5 r4.out.G
    obtain ⟨d0, d1, d2, d3, d4⟩ := cells5 r4.out.R
    have s0 := froz (i := 0) r4.out.R
    have s1 := froz (i := 1) r4.out.R
    have s2 := froz (i := 2) r4.out.R
    have s3 := froz (i := 3) r4.out.R
    have s4 := froz (i := 4) r4.out.R
    have F := Lib.hid (FIN.out _ g _ _ _ _ _ _ r4.out (by rw [D1.out]; simp) (by rw [D2.out]; simp) (by rw [D3.out]; simp))
    go_wp2_with fail
    exact bodyPost_ret (v := .agg #[.int .i64 (22 : Int), .int .i64 (ad : Int), .int .i64 (0 : Int), .slice (some ⟨w7.heap.size, 0, none⟩) 2 2, .int .i64 (0 : Int)]) (by simp [results, Try.results44, go_sem, d0, d1, d2, d3, d4]) rfl (F.out _ _ _ _ _)
  have n5 : ((x0 : Int) == 5) = false := by simp; omega
  have n6 : ((x0 : Int) == 6) = false := by simp; omega
  have n22 : ((x0 : Int) == 22) = false := by simp; omega
  go_wp2_with fail
  refine (A3.out W1 RS.out.bel).mono ?_
  rintro e w6 ⟨rfl, z0⟩
  have rs0 := Lib.hid (RS.out.step z0)
  have r3 := Lib.hid (rs0.out.setq m3)
  have h2 : w6.frozen? ⟨g, 2, none⟩ = false := froz rs0.out.G
  obtain ⟨k0, k1, k2, k3, k4⟩ := cells5 rs0.out.G
  clear z0 c0 c1 c2 c3 c4
  go_upto_region 13 with fail
  obtain ⟨W3, hW3⟩ : ∃ W, W = w6.setCell ⟨g, 2, none⟩ (.int .i64 (m3 : Int)) := ⟨_, rfl⟩
  have r4 : Hid (RdS w W3 g x0 ad m3 none 0 0 [] 0) := Lib.hid (by rw [hW3]; exact r3.out)
  rw [← hW3]
  clear hW3 r3 h2 n5 n6 n22 k0 k1 k2 k3 k4 f2 f3 rs0
  by_cases x15 : x0 = 15
  · subst x15
    by_cases hl : 6 < n
    · have l1 : (6 : Int) < (n : Int) := by omega
      have l2 : (6 : Int) ≤ (n : Int) := by omega
      have l3' : 6 < L.length := by have := HLN.out; omega
      have hle := H.out.le
      have l4 : ¬ c = 6 := by omega
      have l5 : ¬ 6 = c := by omega
      have l6 : 6 ≤ c := by omega
      have l7 : (6 : Int) ≤ (c : Int) := by omega
      clear hle
      have CB := Lib.hid (fun W' (hb : Below w.heap.size w W') => unbD_any (some ⟨b, off + 6, none⟩) (n - 6) (c - 6) (L.drop 6) m3 W' ((bys_drop H.out.row 6 (by omega)).below hb) (by omega) (by omega))
      obtain ⟨c0, c1, c2, c3, c4⟩ := cells5 r4.out.G
      have f3 := froz (i := 3) r4.out.G
      go_upto_region 14 with fail
      go_region_held3 (fun w' => w'.cell? ⟨g, 2, none⟩ = some (.int .i64 (m3 : Int))) (first | exact c2 | exact (cells5 rs7.G).2.2.1 | exact (cells5 (set_self rs7.G _).2.1).2.2.1 | go_keep) (first
        | (go_at_call 48; refine (CB.out _ r4.out.bel.drew).mono ?_; rintro e w7 ⟨a7, n7, c7, rfl, A7, nw7, z7⟩; have rs7 := (r4.out.step ((Below.refl _ _).drew)).step z7; obtain ⟨k0, k1, k2, k3, k4⟩ := cells5 rs7.G; have f7 := froz (i := 3) rs7.G))
      all_goals
        have r3 := Lib.hid (rs7.setv A7 (fun b off e => Nat.le_trans r4.out.bel.size (nw7 b off e)))
        obtain ⟨W4, hW4⟩ : ∃ W, W = w7.setCell ⟨g, 3, none⟩ (.slice a7 n7 c7) := ⟨_, rfl⟩
        have r5 : Hid (RdS w W4 g 15 ad m3 a7 n7 c7 (unb (L.drop 6) m3) 0) := Lib.hid (by rw [hW4]; exact r3.out)
        rw [← hW4]
        clear hW4 r3 k0 k1 k2 k3 k4 f7 f3 c0 c1 c2 c3 c4 rs7 A7 nw7 z7
        obtain ⟨c0, c1, c2, c3, c4⟩ := cells5 r5.out.G
        obtain ⟨d0, d1, d2, d3, d4⟩ := cells5 r5.out.R
        have s0 := froz (i := 0) r5.out.R
        have s1 := froz (i := 1) r5.out.R
        have s2 := froz (i := 2) r5.out.R
        have s3 := froz (i := 3) r5.out.R
        have s4 := froz (i := 4) r5.out.R
        have F := Lib.hid (FIN.out _ g _ _ _ _ _ _ r5.out (by rw [D1.out]; simp [l3']) (by rw [D2.out]; simp [l3']) (by rw [D3.out]; simp [l3']))
        go_wp2_with fail
        exact bodyPost_ret (v := .agg #[.int .i64 (15 : Int), .int .i64 (ad : Int), .int .i64 (m3 : Int), .slice a7 n7 c7, .int .i64 (0 : Int)]) (by simp [results, Try.results44, go_sem, d0, d1, d2, d3, d4]) rfl (F.out _ _ _ _ _)
    · have l1 : ¬ ((6 : Int) < (n : Int)) := by omega
      have l3' : ¬ 6 < L.length := by have := HLN.out; omega
      obtain ⟨c0, c1, c2, c3, c4⟩ := cells5 r4.out.G
      obtain ⟨d0, d1, d2, d3, d4⟩ := cells5 r4.out.R
      have s0 := froz (i := 0) r4.out.R
      have s1 := froz (i := 1) r4.out.R
      have s2 := froz (i := 2) r4.out.R
      have s3 := froz (i := 3) r4.out.R
      have s4 := froz (i := 4) r4.out.R
      have F := Lib.hid (FIN.out _ g _ _ _ _ _ _ r4.out (by rw [D1.out]; simp [l3']) (by rw [D2.out]; simp [l3']) (by rw [D3.out]; simp [l3']))
      go_wp2_with fail
      exact bodyPost_ret (v := .agg #[.int .i64 (15 : Int), .int .i64 (ad : Int), .int .i64 (m3 : Int), .slice none 0 0, .int .i64 (0 : Int)]) (by simp [results, Try.results44, go_sem, d0, d1, d2, d3, d4]) rfl (F.out _ _ _ _ _)
  by_cases x16 : x0 = 16
  · subst x16
    by_cases hl : 6 < n
    · have l1 : (6 : Int) < (n : Int) := by omega
      have l2 : (6 : Int) ≤ (n : Int) := by omega
      have l3' : 6 < L.length := by have := HLN.out; omega
      have hle := H.out.le
      have l4 : ¬ c = 6 := by omega
      have l5 : ¬ 6 = c := by omega
      have l6 : 6 ≤ c := by omega
      have l7 : (6 : Int) ≤ (c : Int) := by omega
      clear hle
      have CB := Lib.hid (fun W' (hb : Below w.heap.size w W') => unwD_any (some ⟨b, off + 6, none⟩) (n - 6) (c - 6) (L.drop 6) W' ((bys_drop H.out.row 6 (by omega)).below hb) (by omega))
      obtain ⟨c0, c1, c2, c3, c4⟩ := cells5 r4.out.G
      go_wp2_with fail
      refine (CB.out W3 r4.out.bel).mono ?_
      rintro e w7 ⟨a7, n7, c7, rfl, A7, nw7, z7⟩
      have rs7 := Lib.hid (r4.out.step z7)
      obtain ⟨k0, k1, k2, k3, k4⟩ := cells5 rs7.out.G
      have f7 := froz (i := 3) rs7.out.G
      have r3 := Lib.hid (rs7.out.setv A7 (fun b off e => Nat.le_trans r4.out.bel.size (nw7 b off e)))
      clear A7 nw7 z7 c0 c1 c2 c3 c4
      go_upto_region 17 with fail
      obtain ⟨W4, hW4⟩ : ∃ W, W = w7.setCell ⟨g, 3, none⟩ (.slice a7 n7 c7) := ⟨_, rfl⟩
      have r5 : Hid (RdS w W4 g 16 ad m3 a7 n7 c7 (unw (L.drop 6)) 0) := Lib.hid (by rw [hW4]; exact r3.out)
      rw [← hW4]
      clear hW4 r3 k0 k1 k2 k3 k4 f7
      obtain ⟨c0, c1, c2, c3, c4⟩ := cells5 r5.out.G
      obtain ⟨d0, d1, d2, d3, d4⟩ := cells5 r5.out.R
      have s0 := froz (i := 0) r5.out.R
      have s1 := froz (i := 1) r5.out.R
      have s2 := froz (i := 2) r5.out.R
      have s3 := froz (i := 3) r5.out.R
      have s4 := froz (i := 4) r5.out.R
      have F := Lib.hid (FIN.out _ g _ _ _ _ _ _ r5.out (by rw [D1.out]; simp [l3']) (by rw [D2.out]; simp [l3']) (by rw [D3.out]; simp [l3']))
      go_wp2_with fail
      exact bodyPost_ret (v := .agg #[.int .i64 (16 : Int), .int .i64 (ad : Int), .int .i64 (m3 : Int), .slice a7 n7 c7, .int .i64 (0 : Int)]) (by simp [results, Try.results44, go_sem, d0, d1, d2, d3, d4]) rfl (F.out _ _ _ _ _)
    · have l1 : ¬ ((6 : Int) < (n : Int)) := by omega
      have l3' : ¬ 6 < L.length := by have := HLN.out; omega
      obtain ⟨c0, c1, c2, c3, c4⟩ := cells5 r4.out.G
      obtain ⟨d0, d1, d2, d3, d4⟩ := cells5 r4.out.R
      have s0 := froz (i := 0) r4.out.R
      have s1 := froz (i := 1) r4.out.R
      have s2 := froz (i := 2) r4.out.R
      have s3 := froz (i := 3) r4.out.R
      have s4 := froz (i := 4) r4.out.R
      have F := Lib.hid (FIN.out _ g _ _ _ _ _ _ r4.out (by rw [D1.out]; simp [l3']) (by rw [D2.out]; simp [l3']) (by rw [D3.out]; simp [l3']))
      go_wp2_with fail
      exact bodyPost_ret (v := .agg #[.int .i64 (16 : Int), .int .i64 (ad : Int), .int .i64 (m3 : Int), .slice none 0 0, .int .i64 (0 : Int)]) (by simp [results, Try.results44, go_sem, d0, d1, d2, d3, d4]) rfl (F.out _ _ _ _ _)
  by_cases x23 : x0 = 23
  · subst x23
    by_cases hl : 10 < n
    · have l1 : (10 : Int) < (n : Int) := by omega
      have l2 : (10 : Int) ≤ (n : Int) := by omega
      have l3' : 10 < L.length := by have := HLN.out; omega
      have hle := H.out.le
      have l4 : ¬ c = 10 := by omega
      have l5 : ¬ 10 = c := by omega
      have l6 : 10 ≤ c := by omega
      have l7 : (10 : Int) ≤ (c : Int) := by omega
      clear hle
      have CB := Lib.hid (fun W' (hb : Below w.heap.size w W') => unwD_any (some ⟨b, off + 10, none⟩) (n - 10) (c - 10) (L.drop 10) W' ((bys_drop H.out.row 10 (by omega)).below hb) (by omega))
      obtain ⟨c0, c1, c2, c3, c4⟩ := cells5 r4.out.G
      go_wp2_with fail
      refine (A5.out W3 r4.out.bel).mono ?_
      rintro e w6 ⟨rfl, z0⟩
      have rs6 := Lib.hid (r4.out.step z0)
      obtain ⟨k0, k1, k2, k3, k4⟩ := cells5 rs6.out.G
      have f4 := froz (i := 4) rs6.out.G
      have r3 := Lib.hid (rs6.out.sett m5)
      clear z0 c0 c1 c2 c3 c4
      go_upto_region 19 with fail
      obtain ⟨W5, hW5⟩ : ∃ W, W = w6.setCell ⟨g, 4, none⟩ (.int .i64 (m5 : Int)) := ⟨_, rfl⟩
      have r6 : Hid (RdS w W5 g 23 ad m3 none 0 0 [] m5) := Lib.hid (by rw [hW5]; exact r3.out)
      rw [← hW5]
      clear hW5 r3 k0 k1 k2 k3 k4 f4
      obtain ⟨c0, c1, c2, c3, c4⟩ := cells5 r6.out.G
      go_wp2_with fail
      refine (CB.out W5 r6.out.bel).mono ?_
      rintro e w7 ⟨a7, n7, c7, rfl, A7, nw7, z7⟩
      have rs7 := Lib.hid (r6.out.step z7)
      obtain ⟨k0, k1, k2, k3, k4⟩ := cells5 rs7.out.G
      have f7 := froz (i := 3) rs7.out.G
      have r3 := Lib.hid (rs7.out.setv A7 (fun b off e => Nat.le_trans r6.out.bel.size (nw7 b off e)))
      clear A7 nw7 z7 c0 c1 c2 c3 c4
      go_upto_region 20 with fail
      obtain ⟨W4, hW4⟩ : ∃ W, W = w7.setCell ⟨g, 3, none⟩ (.slice a7 n7 c7) := ⟨_, rfl⟩
      have r5 : Hid (RdS w W4 g 23 ad m3 a7 n7 c7 (unw (L.drop 10)) m5) := Lib.hid (by rw [hW4]; exact r3.out)
      rw [← hW4]
      clear hW4 r3 k0 k1 k2 k3 k4 f7
      obtain ⟨c0, c1, c2, c3, c4⟩ := cells5 r5.out.G
      obtain ⟨d0, d1, d2, d3, d4⟩ := cells5 r5.out.R
      have s0 := froz (i := 0) r5.out.R
      have s1 := froz (i := 1) r5.out.R
      have s2 := froz (i := 2) r5.out.R
      have s3 := froz (i := 3) r5.out.R
      have s4 := froz (i := 4) r5.out.R
      have F := Lib.hid (FIN.out _ g _ _ _ _ _ _ r5.out (by rw [D1.out]; simp [l3']) (by rw [D2.out]; simp [l3']) (by rw [D3.out]; simp [l3']))
      go_wp2_with fail
      exact bodyPost_ret (v := .agg #[.int .i64 (23 : Int), .int .i64 (ad : Int), .int .i64 (m3 : Int), .slice a7 n7 c7, .int .i64 (m5 : Int)]) (by simp [results, Try.results44, go_sem, d0, d1, d2, d3, d4]) rfl (F.out _ _ _ _ _)
    · have l1 : ¬ ((10 : Int) < (n : Int)) := by omega
      have l3' : ¬ 10 < L.length := by have := HLN.out; omega
      obtain ⟨c0, c1, c2, c3, c4⟩ := cells5 r4.out.G
      obtain ⟨d0, d1, d2, d3, d4⟩ := cells5 r4.out.R
      have s0 := froz (i := 0) r4.out.R
      have s1 := froz (i := 1) r4.out.R
      have s2 := froz (i := 2) r4.out.R
      have s3 := froz (i := 3) r4.out.R
      have s4 := froz (i := 4) r4.out.R
      have F := Lib.hid (FIN.out _ g _ _ _ _ _ _ r4.out (by rw [D1.out]; simp [l3']) (by rw [D2.out]; simp [l3']) (by rw [D3.out]; simp [l3']))
      go_wp2_with fail
      exact bodyPost_ret (v := .agg #[.int .i64 (23 : Int), .int .i64 (ad : Int), .int .i64 (m3 : Int), .slice none 0 0, .int .i64 (0 : Int)]) (by simp [results, Try.results44, go_sem, d0, d1, d2, d3, d4]) rfl (F.out _ _ _ _ _)
  have k5 : ¬ x0 = 15 ∧ ¬ x0 = 16 ∧ ¬ x0 = 23 := ⟨x15, x16, x23⟩
  have n15 : ((x0 : Int) == 15) = false := by simp; omega
  have n16 : ((x0 : Int) == 16) = false := by simp; omega
  have n23 : ((x0 : Int) == 23) = false := by simp; omega
  obtain ⟨c0, c1, c2, c3, c4⟩ := cells5 r4.out.G
  obtain ⟨d0, d1, d2, d3, d4⟩ := cells5 r4.out.R
  have s0 := froz (i := 0) r4.out.R
  have s1 := froz (i := 1) r4.out.R
  have s2 := froz (i := 2) r4.out.R
  have s3 := froz (i := 3) r4.out.R
  have s4 := froz (i := 4) r4.out.R
  have F := Lib.hid (FIN.out _ g _ _ _ _ _ _ r4.out (by rw [D1.out]; simp [x5, x6, x22, x15, x16, x23]) (by rw [D2.out]; simp [x5, x6, x22, x15, x16, x23]) (by rw [D3.out]; simp [x5, x6, x22, x15, x16, x23]))
  go_wp2_with fail
  exact bodyPost_ret (v := .agg #[.int .i64 (x0 : Int), .int .i64 (ad : Int), .int .i64 (m3 : Int), .slice none 0 0, .int .i64 (0 : Int)]) (by simp [results, Try.results44, go_sem, d0, d1, d2, d3, d4]) rfl (F.out _ _ _ _ _)
end Go.Proofs.Ytdolgpogjnfpkaa
