/- has. -/
import Derived.Test.YtdolgpogjnfpkaaSv1
namespace Go.Proofs.Ytdolgpogjnfpkaa
set_option linter.unusedVariables false
open Go.ChangeShapes Go.WideShapes Go.ChangeAt Go.RowKit

theorem cells8 {w : World} {b : Nat} {t : TypeId} {x0 x1 x2 x3 x4 x5 x6 x7 : Value} (h : w.heap[b]? = some (.cells #[x0, x1, x2, x3, x4, x5, x6, x7] t (0, 0))) :
    w.cell? ⟨b, 0, none⟩ = some x0 ∧ w.cell? ⟨b, 1, none⟩ = some x1 ∧ w.cell? ⟨b, 2, none⟩ = some x2 ∧ w.cell? ⟨b, 3, none⟩ = some x3 ∧ w.cell? ⟨b, 4, none⟩ = some x4 ∧ w.cell? ⟨b, 5, none⟩ = some x5 ∧ w.cell? ⟨b, 6, none⟩ = some x6 ∧ w.cell? ⟨b, 7, none⟩ = some x7 := by
  simp [World.cell?, h]
theorem cells5 {w : World} {b : Nat} {t : TypeId} {x0 x1 x2 x3 x4 : Value} (h : w.heap[b]? = some (.cells #[x0, x1, x2, x3, x4] t (0, 0))) :
    w.cell? ⟨b, 0, none⟩ = some x0 ∧ w.cell? ⟨b, 1, none⟩ = some x1 ∧ w.cell? ⟨b, 2, none⟩ = some x2 ∧ w.cell? ⟨b, 3, none⟩ = some x3 ∧ w.cell? ⟨b, 4, none⟩ = some x4 := by
  simp [World.cell?, h]
set_option maxRecDepth 100000 in
set_option maxHeartbeats 40000000 in
theorem has_any (f : Fo) (r : Rq) (w : World) (hf : f.small) (hr : r.ok w) :
    Calls Try.prog 53 #[fv f, rv r] w fun e w' => e = .returned (.bool (has f r)) ∧ Below w.heap.size w w' := by
  obtain ⟨hl, hl2⟩ := len_lt hr
  have SZ := Lib.hid (sized_any f)
  obtain ⟨rd, wr, bi, q, le, mo, co, to⟩ := f
  have y1 := bd_i64 hr.q
  have y2 := bd_i64 hr.to
  have hs1 := hf.q
  have hs2 := hf.le
  have hs3 := hf.mo
  have hvv := hr.arg.row
  clear hr hf
  obtain ⟨fc, ad, rq, vs, vn, vc, V, rto⟩ := r
  simp only [fv, rv, sizedF] at hl hl2 y1 y2 hs1 hs2 hs3 hvv SZ ⊢
  have b0 : Below w.heap.size w ((w.alloc (.cells #[.bool rd, .bool wr, .bool bi, .int .i64 (q : Int), .int .i64 (le : Int), .int .i64 (mo : Int), .bool co, .bool to] 81 (0, 0))).alloc (.cells #[.int .i64 fc, .int .i64 ad, .int .i64 rq, .slice vs vn vc, .int .i64 rto] 32 (0, 0))) := ((Below.refl _ _).alloc (Nat.le_refl _) _).alloc (by simp) _
  have hz0 : ((w.alloc (.cells #[.bool rd, .bool wr, .bool bi, .int .i64 (q : Int), .int .i64 (le : Int), .int .i64 (mo : Int), .bool co, .bool to] 81 (0, 0))).alloc (.cells #[.int .i64 fc, .int .i64 ad, .int .i64 rq, .slice vs vn vc, .int .i64 rto] 32 (0, 0))).heap.size = w.heap.size + 2 := by simp
  have k1 : ((w.alloc (.cells #[.bool rd, .bool wr, .bool bi, .int .i64 (q : Int), .int .i64 (le : Int), .int .i64 (mo : Int), .bool co, .bool to] 81 (0, 0))).alloc (.cells #[.int .i64 fc, .int .i64 ad, .int .i64 rq, .slice vs vn vc, .int .i64 rto] 32 (0, 0))).heap[w.heap.size]? = some (.cells #[.bool rd, .bool wr, .bool bi, .int .i64 (q : Int), .int .i64 (le : Int), .int .i64 (mo : Int), .bool co, .bool to] 81 (0, 0)) := (heap_alloc_old _ _ (by simp)).trans (heap_alloc_new _ _)
  have k2 : ((w.alloc (.cells #[.bool rd, .bool wr, .bool bi, .int .i64 (q : Int), .int .i64 (le : Int), .int .i64 (mo : Int), .bool co, .bool to] 81 (0, 0))).alloc (.cells #[.int .i64 fc, .int .i64 ad, .int .i64 rq, .slice vs vn vc, .int .i64 rto] 32 (0, 0))).heap[w.heap.size + 1]? = some (.cells #[.int .i64 fc, .int .i64 ad, .int .i64 rq, .slice vs vn vc, .int .i64 rto] 32 (0, 0)) := by
    have := heap_alloc_new (w.alloc (.cells #[.bool rd, .bool wr, .bool bi, .int .i64 (q : Int), .int .i64 (le : Int), .int .i64 (mo : Int), .bool co, .bool to] 81 (0, 0))) (.cells #[.int .i64 fc, .int .i64 ad, .int .i64 rq, .slice vs vn vc, .int .i64 rto] 32 (0, 0))
    simpa using this
  have hv2 := hvv.below b0
  have B0 := Lib.hid b0
  have HV2 := Lib.hid hv2
  have kc := fun (w' : World) (hb : Below ((w.alloc (.cells #[.bool rd, .bool wr, .bool bi, .int .i64 (q : Int), .int .i64 (le : Int), .int .i64 (mo : Int), .bool co, .bool to] 81 (0, 0))).alloc (.cells #[.int .i64 fc, .int .i64 ad, .int .i64 rq, .slice vs vn vc, .int .i64 rto] 32 (0, 0))).heap.size ((w.alloc (.cells #[.bool rd, .bool wr, .bool bi, .int .i64 (q : Int), .int .i64 (le : Int), .int .i64 (mo : Int), .bool co, .bool to] 81 (0, 0))).alloc (.cells #[.int .i64 fc, .int .i64 ad, .int .i64 rq, .slice vs vn vc, .int .i64 rto] 32 (0, 0))) w') => And.intro (cells8 ((hb.block w.heap.size (by rw [hz0]; omega)).trans k1)) (cells5 ((hb.block (w.heap.size + 1) (by rw [hz0]; omega)).trans k2))
  simp only [and_assoc] at kc
  have KC := Lib.hid kc
  have HV := Lib.hid (fun (w' : World) (hb : Below ((w.alloc (.cells #[.bool rd, .bool wr, .bool bi, .int .i64 (q : Int), .int .i64 (le : Int), .int .i64 (mo : Int), .bool co, .bool to] 81 (0, 0))).alloc (.cells #[.int .i64 fc, .int .i64 ad, .int .i64 rq, .slice vs vn vc, .int .i64 rto] 32 (0, 0))).heap.size ((w.alloc (.cells #[.bool rd, .bool wr, .bool bi, .int .i64 (q : Int), .int .i64 (le : Int), .int .i64 (mo : Int), .bool co, .bool to] 81 (0, 0))).alloc (.cells #[.int .i64 fc, .int .i64 ad, .int .i64 rq, .slice vs vn vc, .int .i64 rto] 32 (0, 0))) w') => hv2.below hb)
  clear b0 hz0 k1 k2 hv2 kc hvv
  obtain ⟨HB, hHB⟩ : ∃ b, b = has ⟨rd, wr, bi, q, le, mo, co, to⟩ ⟨fc, ad, rq, vs, vn, vc, V, rto⟩ := ⟨_, rfl⟩
  rw [← hHB]
  cases ha : isPl ad
  · have na : (!isPl ad) = true := by simp [ha]
    have hres : HB = false := by rw [hHB]; simp [has, sizedF, hl, ha]
    rw [hres]
    clear hres hHB
    go_enter Try.func53, Try.ntmps53
    go_wp2_with (first
      | (go_at_call 71; refine (isplace_any _ _).mono ?_; rintro e w3 ⟨rfl, rfl⟩)
      | (go_at_call 72; refine (SZ.out _).mono ?_; rintro e w3 ⟨rfl, b3⟩; obtain ⟨x0, x1, x2, x3, x4, x5, x6, x7, y0, y1, y2, y3, y4⟩ := KC.out _ b3; have B3 := Lib.hid (B0.out.trans (b3.mono (by simp; omega))); have hv3 := HV.out _ b3)
      | (go_at_call 73; refine (allbits_any vs vn vc V _ (by first | exact hv3 | exact HV2.out)).mono ?_; rintro e w4 ⟨rfl, rfl⟩))
    go_ret
    exact ⟨by first | rfl | simp, by first | exact B3.out | exact B0.out⟩
  have na : (!isPl ad) = false := by simp [ha]
  cases ht : isPl rto
  · have nt : (!isPl rto) = true := by simp [ht]
    have hres : HB = false := by rw [hHB]; simp [has, sizedF, hl, ha, ht]
    rw [hres]
    clear hres hHB
    go_enter Try.func53, Try.ntmps53
    go_wp2_with (first
      | (go_at_call 71; refine (isplace_any _ _).mono ?_; rintro e w3 ⟨rfl, rfl⟩)
      | (go_at_call 72; refine (SZ.out _).mono ?_; rintro e w3 ⟨rfl, b3⟩; obtain ⟨x0, x1, x2, x3, x4, x5, x6, x7, y0, y1, y2, y3, y4⟩ := KC.out _ b3; have B3 := Lib.hid (B0.out.trans (b3.mono (by simp; omega))); have hv3 := HV.out _ b3)
      | (go_at_call 73; refine (allbits_any vs vn vc V _ (by first | exact hv3 | exact HV2.out)).mono ?_; rintro e w4 ⟨rfl, rfl⟩))
    go_ret
    exact ⟨by first | rfl | simp, by first | exact B3.out | exact B0.out⟩
  have nt : (!isPl rto) = false := by simp [ht]
  by_cases hto : to = false ∧ rto ≠ 0
  · obtain ⟨rfl, hz⟩ := hto
    have nz : (rto != 0) = true := by simpa using hz
    have hres : HB = false := by rw [hHB]; simp [has, sizedF, hl, ha, ht, hz]
    rw [hres]
    clear hres hHB
    go_enter Try.func53, Try.ntmps53
    go_wp2_with (first
      | (go_at_call 71; refine (isplace_any _ _).mono ?_; rintro e w3 ⟨rfl, rfl⟩)
      | (go_at_call 72; refine (SZ.out _).mono ?_; rintro e w3 ⟨rfl, b3⟩; obtain ⟨x0, x1, x2, x3, x4, x5, x6, x7, y0, y1, y2, y3, y4⟩ := KC.out _ b3; have B3 := Lib.hid (B0.out.trans (b3.mono (by simp; omega))); have hv3 := HV.out _ b3)
      | (go_at_call 73; refine (allbits_any vs vn vc V _ (by first | exact hv3 | exact HV2.out)).mono ?_; rintro e w4 ⟨rfl, rfl⟩))
    go_ret
    exact ⟨by first | rfl | simp, by first | exact B3.out | exact B0.out⟩
  have ho : (to || decide (rto = 0)) = true := by cases to <;> simp_all
  have hsplit : to = true ∨ (to = false ∧ (rto != 0) = false) := by cases to <;> simp_all
  clear hto
  by_cases g1 : (q : Int) < rq
  · have d1 : decide ((q : Int) < rq) = true := by simpa using g1
    rcases hsplit with rfl | ⟨rfl, nz⟩
    ·
      have hres : HB = false := by rw [hHB]; simp [has, sizedF, hl, ha, ht, ho, g1]
      rw [hres]
      clear hres hHB
      go_enter Try.func53, Try.ntmps53
      go_wp2_with (first
        | (go_at_call 71; refine (isplace_any _ _).mono ?_; rintro e w3 ⟨rfl, rfl⟩)
        | (go_at_call 72; refine (SZ.out _).mono ?_; rintro e w3 ⟨rfl, b3⟩; obtain ⟨x0, x1, x2, x3, x4, x5, x6, x7, y0, y1, y2, y3, y4⟩ := KC.out _ b3; have B3 := Lib.hid (B0.out.trans (b3.mono (by simp; omega))); have hv3 := HV.out _ b3)
        | (go_at_call 73; refine (allbits_any vs vn vc V _ (by first | exact hv3 | exact HV2.out)).mono ?_; rintro e w4 ⟨rfl, rfl⟩))
      go_ret
      exact ⟨by first | rfl | simp, by first | exact B3.out | exact B0.out⟩
    ·
      have hres : HB = false := by rw [hHB]; simp [has, sizedF, hl, ha, ht, ho, g1]
      rw [hres]
      clear hres hHB
      go_enter Try.func53, Try.ntmps53
      go_wp2_with (first
        | (go_at_call 71; refine (isplace_any _ _).mono ?_; rintro e w3 ⟨rfl, rfl⟩)
        | (go_at_call 72; refine (SZ.out _).mono ?_; rintro e w3 ⟨rfl, b3⟩; obtain ⟨x0, x1, x2, x3, x4, x5, x6, x7, y0, y1, y2, y3, y4⟩ := KC.out _ b3; have B3 := Lib.hid (B0.out.trans (b3.mono (by simp; omega))); have hv3 := HV.out _ b3)
        | (go_at_call 73; refine (allbits_any vs vn vc V _ (by first | exact hv3 | exact HV2.out)).mono ?_; rintro e w4 ⟨rfl, rfl⟩))
      go_ret
      exact ⟨by first | rfl | simp, by first | exact B3.out | exact B0.out⟩
  have d1 : decide ((q : Int) < rq) = false := by simpa using g1
  by_cases g2 : rq < (min q 1 : Nat)
  · rcases hsplit with rfl | ⟨rfl, nz⟩
    · by_cases hq0 : q ≤ 1
      · have hmn : min q 1 = q := by omega
        rw [hmn] at g2
        have d2 : decide (rq < (q : Int)) = true := by simpa using g2
        have hq1 : ¬ (1 : Int) < (q : Int) := by omega
        have hq2 : (q : Int) ≤ 1 := by omega
        have hres : HB = false := by rw [hHB]; simp [has, sizedF, hl, ha, ht, ho, g1, g2, hmn]
        rw [hres]
        clear hres hHB
        go_enter Try.func53, Try.ntmps53
        go_wp2_with (first
          | (go_at_call 71; refine (isplace_any _ _).mono ?_; rintro e w3 ⟨rfl, rfl⟩)
          | (go_at_call 72; refine (SZ.out _).mono ?_; rintro e w3 ⟨rfl, b3⟩; obtain ⟨x0, x1, x2, x3, x4, x5, x6, x7, y0, y1, y2, y3, y4⟩ := KC.out _ b3; have B3 := Lib.hid (B0.out.trans (b3.mono (by simp; omega))); have hv3 := HV.out _ b3)
          | (go_at_call 73; refine (allbits_any vs vn vc V _ (by first | exact hv3 | exact HV2.out)).mono ?_; rintro e w4 ⟨rfl, rfl⟩))
        go_ret
        exact ⟨by first | rfl | simp, by first | exact B3.out | exact B0.out⟩
      · have hmn : min q 1 = 1 := by omega
        rw [hmn] at g2
        have d2 : decide (rq < 1) = true := by simpa using g2
        have hq1 : (1 : Int) < (q : Int) := by omega
        have hq2 : ¬ (q : Int) ≤ 1 := by omega
        have g9 : ¬ (1 : Int) ≤ rq := by omega
        have hres : HB = false := by rw [hHB]; simp [has, sizedF, hl, ha, ht, ho, g1, g9, hmn]
        rw [hres]
        clear hres hHB
        go_enter Try.func53, Try.ntmps53
        go_wp2_with (first
          | (go_at_call 71; refine (isplace_any _ _).mono ?_; rintro e w3 ⟨rfl, rfl⟩)
          | (go_at_call 72; refine (SZ.out _).mono ?_; rintro e w3 ⟨rfl, b3⟩; obtain ⟨x0, x1, x2, x3, x4, x5, x6, x7, y0, y1, y2, y3, y4⟩ := KC.out _ b3; have B3 := Lib.hid (B0.out.trans (b3.mono (by simp; omega))); have hv3 := HV.out _ b3)
          | (go_at_call 73; refine (allbits_any vs vn vc V _ (by first | exact hv3 | exact HV2.out)).mono ?_; rintro e w4 ⟨rfl, rfl⟩))
        go_ret
        exact ⟨by first | rfl | simp, by first | exact B3.out | exact B0.out⟩
    · by_cases hq0 : q ≤ 1
      · have hmn : min q 1 = q := by omega
        rw [hmn] at g2
        have d2 : decide (rq < (q : Int)) = true := by simpa using g2
        have hq1 : ¬ (1 : Int) < (q : Int) := by omega
        have hq2 : (q : Int) ≤ 1 := by omega
        have hres : HB = false := by rw [hHB]; simp [has, sizedF, hl, ha, ht, ho, g1, g2, hmn]
        rw [hres]
        clear hres hHB
        go_enter Try.func53, Try.ntmps53
        go_wp2_with (first
          | (go_at_call 71; refine (isplace_any _ _).mono ?_; rintro e w3 ⟨rfl, rfl⟩)
          | (go_at_call 72; refine (SZ.out _).mono ?_; rintro e w3 ⟨rfl, b3⟩; obtain ⟨x0, x1, x2, x3, x4, x5, x6, x7, y0, y1, y2, y3, y4⟩ := KC.out _ b3; have B3 := Lib.hid (B0.out.trans (b3.mono (by simp; omega))); have hv3 := HV.out _ b3)
          | (go_at_call 73; refine (allbits_any vs vn vc V _ (by first | exact hv3 | exact HV2.out)).mono ?_; rintro e w4 ⟨rfl, rfl⟩))
        go_ret
        exact ⟨by first | rfl | simp, by first | exact B3.out | exact B0.out⟩
      · have hmn : min q 1 = 1 := by omega
        rw [hmn] at g2
        have d2 : decide (rq < 1) = true := by simpa using g2
        have hq1 : (1 : Int) < (q : Int) := by omega
        have hq2 : ¬ (q : Int) ≤ 1 := by omega
        have g9 : ¬ (1 : Int) ≤ rq := by omega
        have hres : HB = false := by rw [hHB]; simp [has, sizedF, hl, ha, ht, ho, g1, g9, hmn]
        rw [hres]
        clear hres hHB
        go_enter Try.func53, Try.ntmps53
        go_wp2_with (first
          | (go_at_call 71; refine (isplace_any _ _).mono ?_; rintro e w3 ⟨rfl, rfl⟩)
          | (go_at_call 72; refine (SZ.out _).mono ?_; rintro e w3 ⟨rfl, b3⟩; obtain ⟨x0, x1, x2, x3, x4, x5, x6, x7, y0, y1, y2, y3, y4⟩ := KC.out _ b3; have B3 := Lib.hid (B0.out.trans (b3.mono (by simp; omega))); have hv3 := HV.out _ b3)
          | (go_at_call 73; refine (allbits_any vs vn vc V _ (by first | exact hv3 | exact HV2.out)).mono ?_; rintro e w4 ⟨rfl, rfl⟩))
        go_ret
        exact ⟨by first | rfl | simp, by first | exact B3.out | exact B0.out⟩
  have hq2 : (¬ (1 : Int) < (q : Int) ∧ (q : Int) ≤ 1 ∧ decide (rq < (q : Int)) = false) ∨ ((1 : Int) < (q : Int) ∧ ¬ (q : Int) ≤ 1 ∧ decide (rq < 1) = false) := by
    by_cases hq0 : q ≤ 1
    · left; have hmn : min q 1 = q := by omega
      rw [hmn] at g2; exact ⟨by omega, by omega, by simpa using g2⟩
    · right; have hmn : min q 1 = 1 := by omega
      rw [hmn] at g2; exact ⟨by omega, by omega, by simpa using g2⟩
  by_cases g3 : vn < le
  · have d3 : decide ((vn : Int) < (le : Int)) = true := by simpa using g3
    rcases hsplit with rfl | ⟨rfl, nz⟩ <;> rcases hq2 with ⟨hq1, hq3, d2⟩ | ⟨hq1, hq3, d2⟩
    all_goals
      have hres : HB = false := by rw [hHB]; simp [has, sizedF, hl, ha, ht, ho, g1, g2, g3]
      rw [hres]
      clear hres hHB
      go_enter Try.func53, Try.ntmps53
      go_wp2_with (first
        | (go_at_call 71; refine (isplace_any _ _).mono ?_; rintro e w3 ⟨rfl, rfl⟩)
        | (go_at_call 72; refine (SZ.out _).mono ?_; rintro e w3 ⟨rfl, b3⟩; obtain ⟨x0, x1, x2, x3, x4, x5, x6, x7, y0, y1, y2, y3, y4⟩ := KC.out _ b3; have B3 := Lib.hid (B0.out.trans (b3.mono (by simp; omega))); have hv3 := HV.out _ b3)
        | (go_at_call 73; refine (allbits_any vs vn vc V _ (by first | exact hv3 | exact HV2.out)).mono ?_; rintro e w4 ⟨rfl, rfl⟩))
      go_ret
      exact ⟨by first | rfl | simp, by first | exact B3.out | exact B0.out⟩
  have d3 : decide ((vn : Int) < (le : Int)) = false := by simpa using g3
  by_cases g4 : mo < vn
  · have d4 : decide ((mo : Int) < (vn : Int)) = true := by simpa using g4
    rcases hsplit with rfl | ⟨rfl, nz⟩ <;> rcases hq2 with ⟨hq1, hq3, d2⟩ | ⟨hq1, hq3, d2⟩
    all_goals
      have hres : HB = false := by rw [hHB]; simp [has, sizedF, hl, ha, ht, ho, g1, g2, g3, g4]
      rw [hres]
      clear hres hHB
      go_enter Try.func53, Try.ntmps53
      go_wp2_with (first
        | (go_at_call 71; refine (isplace_any _ _).mono ?_; rintro e w3 ⟨rfl, rfl⟩)
        | (go_at_call 72; refine (SZ.out _).mono ?_; rintro e w3 ⟨rfl, b3⟩; obtain ⟨x0, x1, x2, x3, x4, x5, x6, x7, y0, y1, y2, y3, y4⟩ := KC.out _ b3; have B3 := Lib.hid (B0.out.trans (b3.mono (by simp; omega))); have hv3 := HV.out _ b3)
        | (go_at_call 73; refine (allbits_any vs vn vc V _ (by first | exact hv3 | exact HV2.out)).mono ?_; rintro e w4 ⟨rfl, rfl⟩))
      go_ret
      exact ⟨by first | rfl | simp, by first | exact B3.out | exact B0.out⟩
  have d4 : decide ((mo : Int) < (vn : Int)) = false := by simpa using g4
  by_cases hs : (co && !rd) = true ∧ (vn : Int) ≠ rq
  · obtain ⟨hs1, hs2⟩ := hs
    have d5 : ((vn : Int) != rq) = true := by simpa using hs2
    have d6 := hs1
    rcases hsplit with rfl | ⟨rfl, nz⟩ <;> rcases hq2 with ⟨hq1, hq3, d2⟩ | ⟨hq1, hq3, d2⟩
    all_goals
      have hres : HB = false := by rw [hHB]; simp [has, sizedF, hl, ha, ht, ho, g1, g2, g3, g4, hs1, hs2]
      rw [hres]
      clear hres hHB
      go_enter Try.func53, Try.ntmps53
      go_wp2_with (first
        | (go_at_call 71; refine (isplace_any _ _).mono ?_; rintro e w3 ⟨rfl, rfl⟩)
        | (go_at_call 72; refine (SZ.out _).mono ?_; rintro e w3 ⟨rfl, b3⟩; obtain ⟨x0, x1, x2, x3, x4, x5, x6, x7, y0, y1, y2, y3, y4⟩ := KC.out _ b3; have B3 := Lib.hid (B0.out.trans (b3.mono (by simp; omega))); have hv3 := HV.out _ b3)
        | (go_at_call 73; refine (allbits_any vs vn vc V _ (by first | exact hv3 | exact HV2.out)).mono ?_; rintro e w4 ⟨rfl, rfl⟩))
      go_ret
      exact ⟨by first | rfl | simp, by first | exact B3.out | exact B0.out⟩
  have hsp : (co && !rd) = false ∨ ((co && !rd) = true ∧ (vn : Int) = rq) := by cases h : (co && !rd) <;> simp_all
  clear hs
  rcases hsp with hs1 | ⟨hs1, hs2⟩
  · cases bi
    ·
      rcases hsplit with rfl | ⟨rfl, nz⟩ <;> rcases hq2 with ⟨hq1, hq3, d2⟩ | ⟨hq1, hq3, d2⟩
      all_goals
        have hres : HB = true := by rw [hHB]; simp [has, sizedF, hl, ha, ht, ho, g1, g2, g3, g4, hs1]
        rw [hres]
        clear hres hHB
        go_enter Try.func53, Try.ntmps53
        go_wp2_with (first
          | (go_at_call 71; refine (isplace_any _ _).mono ?_; rintro e w3 ⟨rfl, rfl⟩)
          | (go_at_call 72; refine (SZ.out _).mono ?_; rintro e w3 ⟨rfl, b3⟩; obtain ⟨x0, x1, x2, x3, x4, x5, x6, x7, y0, y1, y2, y3, y4⟩ := KC.out _ b3; have B3 := Lib.hid (B0.out.trans (b3.mono (by simp; omega))); have hv3 := HV.out _ b3)
          | (go_at_call 73; refine (allbits_any vs vn vc V _ (by first | exact hv3 | exact HV2.out)).mono ?_; rintro e w4 ⟨rfl, rfl⟩))
        go_ret
        exact ⟨by first | rfl | simp, by first | exact B3.out | exact B0.out⟩
    ·
      rcases hsplit with rfl | ⟨rfl, nz⟩ <;> rcases hq2 with ⟨hq1, hq3, d2⟩ | ⟨hq1, hq3, d2⟩
      all_goals
        have hres : HB = allB V := by rw [hHB]; simp [has, sizedF, hl, ha, ht, ho, g1, g2, g3, g4, hs1]
        rw [hres]
        clear hres hHB
        go_enter Try.func53, Try.ntmps53
        go_wp2_with (first
          | (go_at_call 71; refine (isplace_any _ _).mono ?_; rintro e w3 ⟨rfl, rfl⟩)
          | (go_at_call 72; refine (SZ.out _).mono ?_; rintro e w3 ⟨rfl, b3⟩; obtain ⟨x0, x1, x2, x3, x4, x5, x6, x7, y0, y1, y2, y3, y4⟩ := KC.out _ b3; have B3 := Lib.hid (B0.out.trans (b3.mono (by simp; omega))); have hv3 := HV.out _ b3)
          | (go_at_call 73; refine (allbits_any vs vn vc V _ (by first | exact hv3 | exact HV2.out)).mono ?_; rintro e w4 ⟨rfl, rfl⟩))
        go_ret
        exact ⟨by first | rfl | simp, by first | exact B3.out | exact B0.out⟩
  · have d5 : ((vn : Int) != rq) = false := by simpa using hs2
    cases bi
    ·
      rcases hsplit with rfl | ⟨rfl, nz⟩ <;> rcases hq2 with ⟨hq1, hq3, d2⟩ | ⟨hq1, hq3, d2⟩
      all_goals
        have hres : HB = true := by rw [hHB]; simp [has, sizedF, hl, ha, ht, ho, g1, g2, g3, g4, hs1, hs2]
        rw [hres]
        clear hres hHB
        go_enter Try.func53, Try.ntmps53
        go_wp2_with (first
          | (go_at_call 71; refine (isplace_any _ _).mono ?_; rintro e w3 ⟨rfl, rfl⟩)
          | (go_at_call 72; refine (SZ.out _).mono ?_; rintro e w3 ⟨rfl, b3⟩; obtain ⟨x0, x1, x2, x3, x4, x5, x6, x7, y0, y1, y2, y3, y4⟩ := KC.out _ b3; have B3 := Lib.hid (B0.out.trans (b3.mono (by simp; omega))); have hv3 := HV.out _ b3)
          | (go_at_call 73; refine (allbits_any vs vn vc V _ (by first | exact hv3 | exact HV2.out)).mono ?_; rintro e w4 ⟨rfl, rfl⟩))
        go_ret
        exact ⟨by first | rfl | simp, by first | exact B3.out | exact B0.out⟩
    ·
      rcases hsplit with rfl | ⟨rfl, nz⟩ <;> rcases hq2 with ⟨hq1, hq3, d2⟩ | ⟨hq1, hq3, d2⟩
      all_goals
        have hres : HB = allB V := by rw [hHB]; simp [has, sizedF, hl, ha, ht, ho, g1, g2, g3, g4, hs1, hs2]
        rw [hres]
        clear hres hHB
        go_enter Try.func53, Try.ntmps53
        go_wp2_with (first
          | (go_at_call 71; refine (isplace_any _ _).mono ?_; rintro e w3 ⟨rfl, rfl⟩)
          | (go_at_call 72; refine (SZ.out _).mono ?_; rintro e w3 ⟨rfl, b3⟩; obtain ⟨x0, x1, x2, x3, x4, x5, x6, x7, y0, y1, y2, y3, y4⟩ := KC.out _ b3; have B3 := Lib.hid (B0.out.trans (b3.mono (by simp; omega))); have hv3 := HV.out _ b3)
          | (go_at_call 73; refine (allbits_any vs vn vc V _ (by first | exact hv3 | exact HV2.out)).mono ?_; rintro e w4 ⟨rfl, rfl⟩))
        go_ret
        exact ⟨by first | rfl | simp, by first | exact B3.out | exact B0.out⟩
end Go.Proofs.Ytdolgpogjnfpkaa
