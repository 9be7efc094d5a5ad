/- Get. -/
import Derived.Test.YthcfmfkdglmkmaaY
namespace Go.Proofs.Ythcfmfkdglmkmaa
set_option linter.unusedVariables false
set_option linter.unusedSimpArgs false
open Go.ChangeShapes Go.WideShapes Go.ChangeAt Go.RowKit

theorem wf_i64 {n : Int} (h1 : -9223372036854775808 ≤ n) (h2 : n ≤ 9223372036854775807) : (Lit.int .i64 n).wf = true := by
  simp [Lit.wf, IntKind.min, IntKind.max, IntKind.signed, IntKind.bits]; omega
def getG (r : Rq) (D : List Nat) : Int × List Nat := getN r.fc.toNat r.q.toNat (rdF r) (biF r) D
def getF (r : Rq) (D : List Nat) : (Int × List Nat) × Int :=
  if okR r (getG r D).1 (getG r D).2 = true ∧ repN r (getG r D).1 (getG r D).2 = D then (getG r D, if (getG r D).1 ≠ 0 then 52 else 0) else ((0, []), 51)
def GetQ (w : World) (x : (Int × List Nat) × Int) (e : Ending) (w' : World) : Prop := ∃ a n c, e = .returned (.tuple #[.agg #[.int .i64 x.1.1, .slice a n c], .int .i64 x.2]) ∧ ArgW w' a n c x.1.2 ∧ Below w.heap.size w w'
theorem getN_code {fc q : Nat} {rd bi : Bool} {D : List Nat} (h : ∀ b ∈ D, b < 256) : 0 ≤ (getN fc q rd bi D).1 ∧ (getN fc q rd bi D).1 < 256 := by
  have h1 := getD_lt h 1
  unfold getN
  repeat' split
  · exact ⟨by show (0 : Int) ≤ ((D.getD 1 0 : Nat) : Int); omega, by show ((D.getD 1 0 : Nat) : Int) < 256; omega⟩
  all_goals exact ⟨Int.le_refl 0, by show (0 : Int) < 256; omega⟩
theorem repN_by {r : Rq} {w : World} (hr : r.ok w) (h : rightR r = true) {code : Int} {V : List Nat} (hm : mayB r.q (rdF r) (biF r) code V = true) (hV : ∀ v ∈ V, v < 65536) (hl : V.length ≤ 2000) : ∀ b ∈ repN r code V, b < 256 := by
  obtain ⟨hk, hf1, hf2, hq1, hq2⟩ := right_facts h
  have hp : ∀ b ∈ putR (fo r.fc) r, b < 256 := put_by hk hr (rt_of h).hh (by omega) (by omega)
  unfold mayB at hm
  unfold repN
  split
  · rename_i hc
    rw [if_pos (.inl hc)] at hm
    simp [isEx, hc] at hm
    intro b hb
    simp at hb
    omega
  · rename_i hc
    split
    · rename_i hrd
      rw [if_neg (by simp [hrd]; omega)] at hm
      have hft := (fit_of (rt_of h).hh).1.qle
      split
      · rename_i hbi
        intro b hb
        have hb8 := bits_len V
        simp only [List.mem_cons] at hb
        rcases hb with e | e | e
        · omega
        · omega
        · exact bits_by V b e
      · rename_i hbi
        have hq125 : (fo r.fc).q ≤ 125 := by
          unfold rdF at hrd
          unfold biF at hbi
          generalize fo r.fc = f at hk hrd hbi
          unfold formOf at hk
          repeat' split at hk
          all_goals first | (cases hk; done) | (injection hk with hk; subst hk; simp at hrd hbi ⊢)
        simp at hm
        intro b hb
        have hb8 := wb_len V
        simp only [List.mem_cons] at hb
        rcases hb with e | e | e
        · omega
        · omega
        · exact wb_by hV b e
    · split
      · intro b hb
        exact hp b (List.mem_of_mem_take hb)
      · exact hp
set_option maxRecDepth 100000 in
set_option maxHeartbeats 8000000 in
theorem getQ_any (r : Rq) (a : Option Addr) (n c : Nat) (D : List Nat) (w : World) (hr : r.ok w) (h : ArgB w a n c D) (hn : n ≤ 100000) : Calls Try.prog 11 #[rv r, .slice a n c] w (GetQ w (getF r D)) := by
  obtain ⟨P, hP⟩ : ∃ P, P = (GetQ w (getF r D) : Ending → World → Prop) := ⟨_, rfl⟩
  rw [← hP]
  have HP := Lib.hid hP
  obtain ⟨ok, hok⟩ : ∃ b, b = okR r (getG r D).1 (getG r D).2 := ⟨_, rfl⟩
  have HOK : Hid (ok = (rightR r && mayB r.q (rdF r) (biF r) (getG r D).1 (getG r D).2)) := Lib.hid hok
  have HF : Hid (getF r D = if ok = true ∧ repN r (getG r D).1 (getG r D).2 = D then (getG r D, if (getG r D).1 ≠ 0 then 52 else 0) else ((0, []), 51)) := Lib.hid (by rw [hok]; rfl)
  have OF := fun W (h : Below w.heap.size w W) => of2_any r W (hr.below h)
  have GA := fun W (hb : Below w.heap.size w W) (e1 : rightR r = true) => getA_any r (rdF r) (biF r) a n c D W (h.below hb) hn (by have := right_facts e1; omega) (by have := right_facts e1; omega)
  have MA := fun (p : Rp) W (h : Below w.heap.size w W) (hp : p.ok W) => may_any r (rdF r) (biF r) p W (hr.below h) hp
  have PA := fun (p : Rp) W (h : Below w.heap.size w W) (hp : p.ok W) (e1 : rightR r = true) (e2 : mayB r.q (rdF r) (biF r) p.code p.V = true) => putA_any r p W (hr.below h) hp e1 e2
  have RB := Lib.hid (fun (e1 : rightR r = true) (e2 : mayB r.q (rdF r) (biF r) (getG r D).1 (getG r D).2 = true) (hV : ∀ v ∈ (getG r D).2, v < 65536) (hl : (getG r D).2.length ≤ 2000) => repN_by hr e1 e2 hV hl)
  have HB := Lib.hid h.row
  have GC : Hid (0 ≤ (getG r D).1 ∧ (getG r D).1 < 256) := Lib.hid (getN_code h.row.by')
  rw [show getN r.fc.toNat r.q.toNat (rdF r) (biF r) D = getG r D from rfl] at GA
  have MF := Lib.hid (fun (p : Rp) (e : mayB r.q (rdF r) (biF r) p.code p.V = true) (e1 : rightR r = true) => (show p.V.length ≤ 2000 by
    have := right_facts e1
    unfold mayB at e
    split at e
    · simp at e; rw [e.1]; simp
    · simp at e; omega))
  generalize getG r D = g at *
  obtain ⟨gc, G⟩ := g
  simp only at HOK HF GA RB GC
  have hgw : (Lit.int .i64 gc).wf = true := wf_i64 (by have := GC.out; omega) (by have := GC.out; omega)
  have MA2 := fun gs gn gcap W (hb : Below w.heap.size w W) (ha : ArgW W gs gn gcap G) => MA ⟨gc, gs, gn, gcap, G⟩ W hb ⟨ha, hgw⟩
  have PA2 := fun gs gn gcap W (hb : Below w.heap.size w W) (ha : ArgW W gs gn gcap G) => PA ⟨gc, gs, gn, gcap, G⟩ W hb ⟨ha, hgw⟩
  have MF2 := MF.out ⟨gc, none, 0, 0, G⟩
  have RB2 := RB.out
  simp only [rpv] at MA2 PA2 MF2
  clear MA PA MF RB hok
  have HF2 := HF.out
  have HOK2 := HOK.out
  generalize getF r D = gf at HF2 HP hP
  generalize repN r gc G = RL at HF2 PA2 RB2
  generalize mayB r.q (rdF r) (biF r) gc G = mb at MA2 PA2 MF2 RB2 HOK2
  generalize rightR r = ri at OF GA PA2 MF2 RB2 HOK2
  generalize rdF r = rd at OF GA MA2 PA2
  generalize biF r = bi at OF GA MA2 PA2
  obtain ⟨fc, ad, q, vs, vn, vc, V, rto⟩ := r
  simp only [av, rv] at OF GA MA2 PA2 ⊢
  have k1 := alloc_bq w (.cells #[.int .i64 fc, .int .i64 ad, .int .i64 q, .slice vs vn vc, .int .i64 rto] 24 (0, 0))
  have k2 := alloc_bq (w.alloc (.cells #[.int .i64 fc, .int .i64 ad, .int .i64 q, .slice vs vn vc, .int .i64 rto] 24 (0, 0))) (.cells #[.int .i64 0, .slice none 0 0] 26 (0, 0))
  have bw := k1.trans (k2.mono k1.size)
  have hy := heap_alloc_new (w.alloc (.cells #[.int .i64 fc, .int .i64 ad, .int .i64 q, .slice vs vn vc, .int .i64 rto] 24 (0, 0))) (.cells #[.int .i64 0, .slice none 0 0] 26 (0, 0))
  rw [World.size_alloc] at hy
  have HY := Lib.hid hy
  have BW := Lib.hid bw
  have OF1 := Lib.hid (OF _ bw)
  have HGA := Lib.hid GA
  have HMA := Lib.hid MA2
  have HPA := Lib.hid PA2
  have HMF := Lib.hid MF2
  have HRB := Lib.hid RB2
  have HFF := Lib.hid HF2
  have HOO := Lib.hid HOK2
  have FIN : Hid (∀ W' x u m d M (er : Int), ArgW W' u m d M → Below w.heap.size w W' → gf = ((x, M), er) → P (.returned (.tuple #[.agg #[.int .i64 x, .slice u m d], .int .i64 er])) W') := Lib.hid (fun W' x u m d M er h1 h2 h3 => by
    rw [HP.out, h3]; exact ⟨u, m, d, rfl, h1, h2⟩)
  clear hP hr h hn OF GA MA2 PA2 MF2 RB2 HF2 HOK2 HF HOK k1 k2 bw hy hgw HP
  go_enter Try.func11, Try.ntmps11
  go_wp2_with fail
  refine OF1.out.mono ?_
  rintro e w1 ⟨rfl, z1⟩
  have b1 := BW.out.trans (Below.mono z1 BW.out.size)
  have hy1 := low_of z1 HY.out
  have X1 := Lib.hid (heap_alloc_new w1 (.cells #[.int .i64 fc, .int .i64 ad, .int .i64 q, .slice vs vn vc, .int .i64 rto, .bool rd, .bool bi] 46 (0, 0)))
  have hy2 := low_of (alloc_bq w1 (.cells #[.int .i64 fc, .int .i64 ad, .int .i64 q, .slice vs vn vc, .int .i64 rto, .bool rd, .bool bi] 46 (0, 0))) hy1
  have HY2 := Lib.hid hy2
  have B2 := Lib.hid (b1.alloc (o := (.cells #[.int .i64 fc, .int .i64 ad, .int .i64 q, .slice vs vn vc, .int .i64 rto, .bool rd, .bool bi] 46 (0, 0))) b1.size)
  obtain ⟨y0, y1⟩ := cells2q hy2
  have yf0 := froz (i := 0) hy2
  have yf1 := froz (i := 1) hy2
  clear hy1 hy2 b1 z1
  cases ri with
  | false =>
    have HOF : Hid (gf = ((0, []), 51)) := Lib.hid (by rw [HFF.out, HOO.out]; rfl)
    go_upto_region 2 with fail
    obtain ⟨W2, hW2⟩ : ∃ W2, W2 = w1.alloc (.cells #[.int .i64 fc, .int .i64 ad, .int .i64 q, .slice vs vn vc, .int .i64 rto, .bool rd, .bool bi] 46 (0, 0)) := ⟨_, rfl⟩
    rw [← hW2] at y0 y1 yf0 yf1 HY2 B2 ⊢
    clear hW2 X1
    go_wp2_with fail
    have hB := st2_block HY2.out (.int .i64 0) (.slice none 0 0)
    have hW := st2_below B2.out (Nat.le_succ _) (.int .i64 0) (.slice none 0 0)
    have hA := ArgW.st2 (argW_none _) HY2.out (.int .i64 0) (.slice none 0 0)
    generalize (W2.setCell ⟨w.heap.size + 1, 0, none⟩ (.int .i64 0)).setCell ⟨w.heap.size + 1, 1, none⟩ (.slice none 0 0) = wF at hB hW hA ⊢
    obtain ⟨e0, e1⟩ := cells2q hB
    refine bodyPost_ret (v := .tuple #[.agg #[.int .i64 0, .slice none 0 0], .int .i64 51]) (by simp [results, Try.results11, go_sem, e0, e1]) rfl ?_
    exact FIN.out _ _ _ _ _ _ _ hA hW HOF.out
  | true =>
    go_upto_region 2 with fail
    obtain ⟨W2, hW2⟩ : ∃ W2, W2 = w1.alloc (.cells #[.int .i64 fc, .int .i64 ad, .int .i64 q, .slice vs vn vc, .int .i64 rto, .bool rd, .bool bi] 46 (0, 0)) := ⟨_, rfl⟩
    rw [← hW2] at y0 y1 yf0 yf1 HY2 B2 X1 ⊢
    clear hW2
    obtain ⟨p0, p1, p2, p3, p4, p5, p6⟩ := cells7 X1.out
    have GA2 := Lib.hid (HGA.out W2 B2.out (by trivial))
    go_wp2_with fail
    refine GA2.out.mono ?_
    rintro e w3 ⟨gs, gn, gcap, rfl, ga3, z3⟩
    have b3 := B2.out.trans (Below.mono z3 B2.out.size)
    have k3 := alloc_bq w3 (.cells #[.int .i64 gc, .slice gs gn gcap] 26 (0, 0))
    have hn4 := heap_alloc_new w3 (.cells #[.int .i64 gc, .slice gs gn gcap] 26 (0, 0))
    have x4 := low_of k3 (low_of z3 X1.out)
    have y4 := low_of k3 (low_of z3 HY2.out)
    have ga4 := ga3.below k3
    have b4 := b3.trans (Below.mono k3 b3.size)
    go_upto_region 5 with fail
    obtain ⟨W4, hW4⟩ : ∃ W4, W4 = w3.alloc (.cells #[.int .i64 gc, .slice gs gn gcap] 26 (0, 0)) := ⟨_, rfl⟩
    rw [← hW4] at hn4 x4 y4 ga4 b4 ⊢
    have M5 := Lib.hid (HMA.out gs gn gcap W4 b4 ga4)
    have HN4 := Lib.hid hn4
    have HX4 := Lib.hid x4
    have HY4 := Lib.hid y4
    have GA4 := Lib.hid ga4
    have B4 := Lib.hid b4
    obtain ⟨p0, p1, p2, p3, p4, p5, p6⟩ := cells7 x4
    obtain ⟨n0, n1⟩ := cells2q hn4
    clear hn4 x4 y4 ga4 b4 b3 k3 ga3 z3 hW4 y0 y1 yf0 yf1
    go_wp2_with fail
    refine M5.out.mono ?_
    rintro e w5 ⟨rfl, z5⟩
    have B5 := Lib.hid (B4.out.trans (Below.mono z5 B4.out.size))
    have hn5 := low_of z5 HN4.out
    have hx5 := low_of z5 HX4.out
    have hy5 := low_of z5 HY4.out
    have ga5 := GA4.out.below z5
    have HY5 := Lib.hid hy5
    cases mb with
    | false =>
      have HOF : Hid (gf = ((0, []), 51)) := Lib.hid (by rw [HFF.out, HOO.out]; rfl)
      obtain ⟨y0, y1⟩ := cells2q hy5
      have yf0 := froz (i := 0) hy5
      have yf1 := froz (i := 1) hy5
      clear hn5 hx5 hy5 ga5 z5
      go_wp2_with fail
      have hB := st2_block HY5.out (.int .i64 0) (.slice none 0 0)
      have hW := st2_below B5.out (Nat.le_succ _) (.int .i64 0) (.slice none 0 0)
      have hA := ArgW.st2 (argW_none _) HY5.out (.int .i64 0) (.slice none 0 0)
      generalize (w5.setCell ⟨w.heap.size + 1, 0, none⟩ (.int .i64 0)).setCell ⟨w.heap.size + 1, 1, none⟩ (.slice none 0 0) = wF at hB hW hA ⊢
      obtain ⟨e0, e1⟩ := cells2q hB
      refine bodyPost_ret (v := .tuple #[.agg #[.int .i64 0, .slice none 0 0], .int .i64 51]) (by simp [results, Try.results11, go_sem, e0, e1]) rfl ?_
      exact FIN.out _ _ _ _ _ _ _ hA hW HOF.out
    | true =>
      have HOO2 : Hid (ok = true) := Lib.hid (by rw [HOO.out]; rfl)
      have P5 := Lib.hid (HPA.out gs gn gcap w5 B5.out ga5 (by trivial) (by trivial))
      obtain ⟨p0, p1, p2, p3, p4, p5, p6⟩ := cells7 hx5
      obtain ⟨n0, n1⟩ := cells2q hn5
      have HN5 := Lib.hid hn5
      have GA5 := Lib.hid ga5
      have RB5 := Lib.hid (HRB.out (by trivial) (by trivial) ga5.row.by' (HMF.out (by trivial) (by trivial)))
      clear hn5 hx5 hy5 ga5 z5
      go_wp2_with fail
      refine P5.out.mono ?_
      rintro e w6 ⟨v6, rfl, o6, z6⟩
      obtain ⟨a6, c6, hv6, ab6, _⟩ := OwnV.argB o6 RB5.out
      subst hv6
      have E6 := Lib.hid (equal_any a6 RL.length c6 RL a n c D w6 ab6.row (HB.out.below (B5.out.trans (Below.mono z6 B5.out.size))))
      have B6 := Lib.hid (B5.out.trans (Below.mono z6 B5.out.size))
      have hy6 := low_of z6 HY5.out
      have hn6 := low_of z6 HN5.out
      have HY6 := Lib.hid hy6
      have GA6 := Lib.hid (GA5.out.below z6)
      obtain ⟨y0, y1⟩ := cells2q hy6
      obtain ⟨n0, n1⟩ := cells2q hn6
      have yf0 := froz (i := 0) hy6
      have yf1 := froz (i := 1) hy6
      clear o6 z6 ab6 hy6 hn6
      go_wp2_with fail
      refine E6.out.mono ?_
      rintro e w7 ⟨rfl, hw7⟩
      rw [hw7]
      clear hw7
      by_cases hD : RL = D
      · have HG : Hid (gf = ((gc, G), if gc ≠ 0 then 52 else 0)) := Lib.hid (HFF.out.trans (if_pos ⟨HOO2.out, hD⟩))
        rw [decide_eq_true hD]
        clear hD
        by_cases hg : gc = 0
        · have t1 : (gc != 0) = false := by simp [hg]
          have HG2 : Hid (gf = ((gc, G), 0)) := Lib.hid (by rw [HG.out, if_neg (by simp [hg])])
          clear hg
          go_wp2_with fail
          have hB := st2_block HY6.out (.int .i64 gc) (.slice (gs) (gn) (gcap))
          have hW := st2_below B6.out (Nat.le_succ _) (.int .i64 gc) (.slice (gs) (gn) (gcap))
          have hA := ArgW.st2 GA6.out HY6.out (.int .i64 gc) (.slice (gs) (gn) (gcap))
          generalize (w6.setCell ⟨w.heap.size + 1, 0, none⟩ (.int .i64 gc)).setCell ⟨w.heap.size + 1, 1, none⟩ (.slice (gs) (gn) (gcap)) = wF at hB hW hA ⊢
          obtain ⟨e0, e1⟩ := cells2q hB
          refine bodyPost_ret (v := .tuple #[.agg #[.int .i64 gc, .slice (gs) (gn) (gcap)], .int .i64 0]) (by simp [results, Try.results11, go_sem, e0, e1]) rfl ?_
          exact FIN.out _ _ _ _ _ _ _ hA hW HG2.out
        · have t1 : (gc != 0) = true := by simp [hg]
          have HG2 : Hid (gf = ((gc, G), 52)) := Lib.hid (by rw [HG.out, if_pos hg])
          clear hg
          go_wp2_with fail
          have hB := st2_block HY6.out (.int .i64 gc) (.slice (gs) (gn) (gcap))
          have hW := st2_below B6.out (Nat.le_succ _) (.int .i64 gc) (.slice (gs) (gn) (gcap))
          have hA := ArgW.st2 GA6.out HY6.out (.int .i64 gc) (.slice (gs) (gn) (gcap))
          generalize (w6.setCell ⟨w.heap.size + 1, 0, none⟩ (.int .i64 gc)).setCell ⟨w.heap.size + 1, 1, none⟩ (.slice (gs) (gn) (gcap)) = wF at hB hW hA ⊢
          obtain ⟨e0, e1⟩ := cells2q hB
          refine bodyPost_ret (v := .tuple #[.agg #[.int .i64 gc, .slice (gs) (gn) (gcap)], .int .i64 52]) (by simp [results, Try.results11, go_sem, e0, e1]) rfl ?_
          exact FIN.out _ _ _ _ _ _ _ hA hW HG2.out
      · have HOF : Hid (gf = ((0, []), 51)) := Lib.hid (HFF.out.trans (if_neg (fun e => hD e.2)))
        rw [decide_eq_false hD]
        clear hD
        go_wp2_with fail
        have hB := st2_block HY6.out (.int .i64 0) (.slice none 0 0)
        have hW := st2_below B6.out (Nat.le_succ _) (.int .i64 0) (.slice none 0 0)
        have hA := ArgW.st2 (argW_none _) HY6.out (.int .i64 0) (.slice none 0 0)
        generalize (w6.setCell ⟨w.heap.size + 1, 0, none⟩ (.int .i64 0)).setCell ⟨w.heap.size + 1, 1, none⟩ (.slice none 0 0) = wF at hB hW hA ⊢
        obtain ⟨e0, e1⟩ := cells2q hB
        refine bodyPost_ret (v := .tuple #[.agg #[.int .i64 0, .slice none 0 0], .int .i64 51]) (by simp [results, Try.results11, go_sem, e0, e1]) rfl ?_
        exact FIN.out _ _ _ _ _ _ _ hA hW HOF.out
end Go.Proofs.Ythcfmfkdglmkmaa
