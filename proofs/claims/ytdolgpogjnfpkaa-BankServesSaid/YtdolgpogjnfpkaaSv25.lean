/- The document's Put of a right request; its Right of an answer that may be. -/
import Derived.Test.YtdolgpogjnfpkaaSv24
namespace Go.Proofs.Ytdolgpogjnfpkaa
set_option linter.unusedVariables false
set_option linter.unusedSimpArgs false
open Go.ChangeShapes Go.WideShapes Go.ChangeAt Go.RowKit

set_option maxRecDepth 100000 in
set_option maxHeartbeats 4000000 in
theorem putD_any (r : Rq) (w : World) (hr : r.ok w) (hri : rightR r = true) : Calls Try.prog 63 #[rv r] w (OutP w (putR (fo r.fc) r)) := by
  obtain ⟨P, hP⟩ : ∃ P, P = (OutP w (putR (fo r.fc) r) : Ending → World → Prop) := ⟨_, rfl⟩
  rw [← hP]
  have HP := Lib.hid hP
  have hk := (right_facts hri).1
  have hh := (rt_of hri).hh
  have RI := Lib.hid (fun W (h : Below w.heap.size w W) => (right14_any r W (hr.below h)))
  rw [hri] at RI
  have BY := Lib.hid (fun W (h : Below w.heap.size w W) => bytesD_any r W (hr.below h) hk hh)
  generalize putR (fo r.fc) r = M at BY HP
  clear hP hr hri hk hh
  obtain ⟨fc, ad, q, vs, vn, vc, V, rto⟩ := r
  simp only [rv] at RI BY ⊢
  have B0 := Lib.hid (alloc_bq w (.cells #[.int .i64 fc, .int .i64 ad, .int .i64 q, .slice vs vn vc, .int .i64 rto] 32 (0, 0)))
  have X0 := Lib.hid (heap_alloc_new w (.cells #[.int .i64 fc, .int .i64 ad, .int .i64 q, .slice vs vn vc, .int .i64 rto] 32 (0, 0)))
  have S0 := RI.out _ B0.out
  go_enter Try.func63, Try.ntmps63
  go_wp2_with fail
  refine S0.mono ?_
  rintro e w1 ⟨rfl, z1⟩
  have B1 := Lib.hid (B0.out.trans (Below.mono z1 B0.out.size))
  obtain ⟨c0, c1, c2, c3, c4⟩ := cells5 (low_of z1 X0.out)
  clear z1 S0
  have E1 := BY.out w1 B1.out
  go_wp2_with fail
  refine E1.mono ?_
  rintro e w2 ⟨v, rfl, ho, z2⟩
  have B2 := Lib.hid (B1.out.trans (Below.mono z2 B1.out.size))
  have O2 := Lib.hid (OwnV.mono ho B1.out.size)
  clear z2 E1 ho
  go_wp2_with fail
  rw [HP.out]
  exact ⟨v, rfl, O2.out, B2.out⟩

theorem mayB_facts {q : Int} {rd bi : Bool} {code : Int} {V : List Nat} (h : mayB q rd bi code V = true) :
    (code ≠ 0 → 1 ≤ code ∧ code ≤ 4 ∧ V = []) ∧ (code = 0 → rd = false → V = []) ∧ (code = 0 → rd = true → (V.length : Int) = q ∧ (bi = true → allB V = true)) := by
  unfold mayB at h
  refine ⟨fun hc => ?_, fun hc hr => ?_, fun hc hr => ?_⟩
  · rw [if_pos (.inl hc)] at h
    simp [hc, isEx] at h
    exact ⟨h.2.1, h.2.2, h.1⟩
  · rw [if_pos (.inr hr)] at h
    simp at h
    exact h.1
  · rw [if_neg (by simp [hc, hr])] at h
    simp at h
    refine ⟨h.1, fun hb => ?_⟩
    rcases h.2 with z | z
    · rw [hb] at z; cases z
    · exact z
theorem allB_le {V : List Nat} (h : allB V = true) (k : Nat) : V.getD k 0 ≤ 1 := allB_getD h k
set_option maxRecDepth 100000 in
set_option maxHeartbeats 4000000 in
/-- The document's Right of an exception. -/
theorem rightY_ex (r : Rq) (p : Rp) (w : World) (hr : r.ok w) (hp : p.ok w) (ho : okR r p.code p.V = true) (hc : p.code ≠ 0) : Calls Try.prog 50 #[rv r, rpv p] w (BoolB w true) := by
  unfold okR at ho
  rw [Bool.and_eq_true] at ho
  obtain ⟨hri, hm⟩ := ho
  obtain ⟨h1, h4, hV⟩ := (mayB_facts hm).1 hc
  have hln := hp.arg.row.ln
  have RI := Lib.hid (fun W (h : Below w.heap.size w W) => (right14_any r W (hr.below h)))
  rw [hri] at RI
  obtain ⟨fc, ad, q, vs, vn, vc, V, rto⟩ := r
  obtain ⟨code, us, un, uc, U⟩ := p
  simp only at hV hln hc h1 h4
  subst hV
  subst hln
  simp only [rv, rpv, List.length_nil] at RI ⊢
  have k1 := alloc_bq w (.cells #[.int .i64 fc, .int .i64 ad, .int .i64 q, .slice vs vn vc, .int .i64 rto] 32 (0, 0))
  have k2 := alloc_bq (w.alloc (.cells #[.int .i64 fc, .int .i64 ad, .int .i64 q, .slice vs vn vc, .int .i64 rto] 32 (0, 0))) (.cells #[.int .i64 code, .slice us 0 uc] 40 (0, 0))
  have bw := k1.trans (k2.mono k1.size)
  have hy := heap_alloc_new (w.alloc (.cells #[.int .i64 fc, .int .i64 ad, .int .i64 q, .slice vs vn vc, .int .i64 rto] 32 (0, 0))) (.cells #[.int .i64 code, .slice us 0 uc] 40 (0, 0))
  rw [World.size_alloc] at hy
  have HY := Lib.hid hy
  have BW := Lib.hid bw
  have OF1 := Lib.hid (RI.out _ bw)
  have t0 : (code != 0) = true := by simp [hc]
  have t1 : decide (1 ≤ code) = true := by simp; omega
  have t2 : decide (code ≤ 4) = true := by simp; omega
  clear k1 k2 bw hy hr hp hri hm hc
  go_enter Try.func50, Try.ntmps50
  go_wp2_with fail
  refine OF1.out.mono ?_
  rintro e w1 ⟨rfl, z1⟩
  have B1 := Lib.hid (BW.out.trans (Below.mono z1 BW.out.size))
  obtain ⟨y0, y1⟩ := cells2q (low_of z1 HY.out)
  clear z1
  go_wp2_with fail
  go_ret
  exact ⟨rfl, B1.out⟩
set_option maxRecDepth 100000 in
set_option maxHeartbeats 4000000 in
/-- The document's Right of an answer. -/
theorem rightY_ok (r : Rq) (p : Rp) (w : World) (hr : r.ok w) (hp : p.ok w) (ho : okR r p.code p.V = true) (hc : p.code = 0) : Calls Try.prog 50 #[rv r, rpv p] w (BoolB w true) := by
  unfold okR at ho
  rw [Bool.and_eq_true] at ho
  obtain ⟨hri, hm⟩ := ho
  have hf := (mayB_facts hm).2
  have hk := (right_facts hri).1
  have hrf := reads14_fo hk
  have hln := hp.arg.row.ln
  have hle := hp.arg.row.le
  unfold maxLen at hle
  have RI := Lib.hid (fun W (h : Below w.heap.size w W) => (right14_any r W (hr.below h)))
  rw [hri] at RI
  have RD := Lib.hid (fun W => reads14_any r.fc W)
  rw [hrf.1, hrf.2] at RD
  unfold rdF biF at hf
  generalize (fo r.fc).rd = rd at RD hf
  generalize (fo r.fc).bi = bi at RD hf
  obtain ⟨fc, ad, q, vs, vn, vc, V, rto⟩ := r
  obtain ⟨code, us, un, uc, U⟩ := p
  simp only at hf hln hle hc
  subst hc
  have HPA := Lib.hid hp.arg.row
  simp only at HPA
  simp only [rv, rpv] at RI RD ⊢
  have k1 := alloc_bq w (.cells #[.int .i64 fc, .int .i64 ad, .int .i64 q, .slice vs vn vc, .int .i64 rto] 32 (0, 0))
  have k2 := alloc_bq (w.alloc (.cells #[.int .i64 fc, .int .i64 ad, .int .i64 q, .slice vs vn vc, .int .i64 rto] 32 (0, 0))) (.cells #[.int .i64 0, .slice us un uc] 40 (0, 0))
  have bw := k1.trans (k2.mono k1.size)
  have hx := low_of k2 (heap_alloc_new w (.cells #[.int .i64 fc, .int .i64 ad, .int .i64 q, .slice vs vn vc, .int .i64 rto] 32 (0, 0)))
  have hy := heap_alloc_new (w.alloc (.cells #[.int .i64 fc, .int .i64 ad, .int .i64 q, .slice vs vn vc, .int .i64 rto] 32 (0, 0))) (.cells #[.int .i64 0, .slice us un uc] 40 (0, 0))
  rw [World.size_alloc] at hy
  have HX := Lib.hid hx
  have HY := Lib.hid hy
  have BW := Lib.hid bw
  have OF1 := Lib.hid (RI.out _ bw)
  clear k1 k2 bw hy hx hr hp hri hm hk hrf
  cases rd with
  | false =>
    have hz := hf.1 rfl rfl
    subst hz
    obtain rfl : un = 0 := by simpa using hln.symm
    clear hln hle hf
    go_enter Try.func50, Try.ntmps50
    go_wp2_with fail
    refine OF1.out.mono ?_
    rintro e w1 ⟨rfl, z1⟩
    have B1 := Lib.hid (BW.out.trans (Below.mono z1 BW.out.size))
    obtain ⟨y0, y1⟩ := cells2q (low_of z1 HY.out)
    obtain ⟨x0, x1, x2, x3, x4⟩ := cells5 (low_of z1 HX.out)
    clear z1
    go_wp2_with fail
    refine (RD.out _).mono ?_
    rintro e w2 ⟨rfl, e2⟩
    rw [e2]
    go_wp2_with fail
    go_ret
    exact ⟨rfl, B1.out⟩
  | true =>
    obtain ⟨hq, hb⟩ := hf.2 rfl rfl
    have hqn : (un : Int) = q := by rw [← hq, hln]
    have HQ := Lib.hid hqn
    have HB : Hid (bi = true → ∀ k, U.getD k 0 ≤ 1) := Lib.hid (fun h k => allB_le (hb (by rw [h]; rfl)) k)
    clear hln hf hb hq hqn
    go_enter Try.func50, Try.ntmps50
    go_wp2_with fail
    refine OF1.out.mono ?_
    rintro e w1 ⟨rfl, z1⟩
    have hB1 := BW.out.trans (Below.mono z1 BW.out.size)
    have HW1 := Lib.hid (HPA.out.below hB1)
    have B1 := Lib.hid hB1
    obtain ⟨y0, y1⟩ := cells2q (low_of z1 HY.out)
    obtain ⟨x0, x1, x2, x3, x4⟩ := cells5 (low_of z1 HX.out)
    clear z1 hB1
    go_wp2_with fail
    refine (RD.out _).mono ?_
    rintro e w2 ⟨rfl, e2⟩
    rw [e2]
    clear e2
    go_wp2_with fail
    go_loop [7] (fun i => ∃ k : Nat, k ≤ un ∧ i = .int .i64 k) (fun i => un - (intOf i).toNat)
    case atStart => exact ⟨0, Nat.zero_le _, rfl⟩
    case round =>
      obtain ⟨k, hk, rfl⟩ := hrel
      by_cases hkn : k < un
      · obtain ⟨b, off, rfl, hc⟩ := HW1.out.row k hkn
        have d0 : (k : Int) < (un : Int) := by omega
        have hb1 := fun h => HB.out h k
        generalize U.getD k 0 = v at hc hb1
        cases bi with
        | true =>
          have hv := hb1 rfl
          have d1 : decide ((1 : Int) < (v : Int)) = false := by simp; omega
          clear hb1
          go_wp2_with fail
          go_round
          case rel => exact ⟨k + 1, by omega, by go_num⟩
          case measure => simp [intOf]; omega
        | false =>
          clear hb1
          go_wp2_with fail
          go_round
          case rel => exact ⟨k + 1, by omega, by go_num⟩
          case measure => simp [intOf]; omega
      · have hk' : k = un := by omega
        subst hk'
        rw [← HQ.out] at x2
        go_wp2_with fail
        go_ret
        exact ⟨rfl, B1.out⟩
theorem rightY_any (r : Rq) (p : Rp) (w : World) (hr : r.ok w) (hp : p.ok w) (ho : okR r p.code p.V = true) : Calls Try.prog 50 #[rv r, rpv p] w (BoolB w true) := by
  by_cases hc : p.code = 0
  · exact rightY_ok r p w hr hp ho hc
  · exact rightY_ex r p w hr hp ho hc
end Go.Proofs.Ytdolgpogjnfpkaa
/- The document's Put of an answer that may be. -/
namespace Go.Proofs.Ytdolgpogjnfpkaa
set_option linter.unusedVariables false
set_option linter.unusedSimpArgs false
open Go.ChangeShapes Go.WideShapes Go.ChangeAt Go.RowKit

theorem wr_q {r : Rq} (h : rightR r = true) : rdF r = false → (0 < r.q ↔ r.fc = 15 ∨ r.fc = 16) := by
  have ht := rt_of h
  have hk := ht.k
  have hh := (has_iff _ _).1 ht.hh
  have h1 := hh.2.2.2.1
  have h2 := hh.2.2.2.2.1
  unfold rdF
  generalize fo r.fc = f at hk h1 h2
  generalize r.fc = n at hk
  generalize r.q = q at h1 h2
  unfold formOf at hk
  intro hr
  repeat' split at hk
  all_goals first | (cases hk; done) | (injection hk with hk; subst hk; simp at hr h1 h2 ⊢ <;> omega)
theorem rd_q {r : Rq} (h : rightR r = true) : rdF r = true → biF r = false → r.q ≤ 125 := by
  have ht := rt_of h
  have hk := ht.k
  have hh := (has_iff _ _).1 ht.hh
  have h1 := hh.2.2.2.1
  unfold rdF biF
  generalize fo r.fc = f at hk h1
  generalize r.fc = n at hk
  generalize r.q = q at h1
  unfold formOf at hk
  intro hr hb
  repeat' split at hk
  all_goals first | (cases hk; done) | (injection hk with hk; subst hk; simp at hr hb h1 ⊢ <;> omega)
set_option maxRecDepth 100000 in
set_option maxHeartbeats 8000000 in
theorem putY_ex (r : Rq) (p : Rp) (w : World) (hr : r.ok w) (hp : p.ok w) (ho : okR r p.code p.V = true) (hc : p.code ≠ 0) : Calls Try.prog 31 #[rv r, rpv p] w (OutP w (repN r p.code p.V)) := by
  obtain ⟨P, hP⟩ : ∃ P, P = (OutP w (repN r p.code p.V) : Ending → World → Prop) := ⟨_, rfl⟩
  rw [← hP]
  have HP := Lib.hid hP
  have RY := Lib.hid (fun W (h : Below w.heap.size w W) => rightY_any r p W (hr.below h) (hp.below h) ho)
  have hri : rightR r = true := by unfold okR at ho; rw [Bool.and_eq_true] at ho; exact ho.1
  have hm : mayB r.q (rdF r) (biF r) p.code p.V = true := by unfold okR at ho; rw [Bool.and_eq_true] at ho; exact ho.2
  obtain ⟨hk, hf1, hf2, hq1, hq2⟩ := right_facts hri
  have hf := mayB_facts hm
  have hln := hp.arg.row.ln
  have HRW0 := Lib.hid hp.arg.row
  have PU := Lib.hid (fun W (h : Below w.heap.size w W) => putD_any r W (hr.below h) hri)
  have PL := Lib.hid (fun hrd => put5 hri hrd)
  have PB : Hid (∀ b ∈ putR (fo r.fc) r, b < 256) := Lib.hid (put_by (rt_of hri).k hr (rt_of hri).hh (by omega) (by omega))
  have RD := Lib.hid (fun W => reads14_any r.fc W)
  have hrf := reads14_fo hk
  rw [hrf.1, hrf.2] at RD
  have hq15 := wr_q hri
  have hrd125 := rd_q hri
  have HBR : Hid (rdF r = false → biF r = false) := Lib.hid (by intro e; unfold biF; unfold rdF at e; rw [e]; rfl)
  rw [show (fo r.fc).rd = rdF r from rfl, show (rdF r && (fo r.fc).bi) = biF r from rfl] at RD
  have HREP : Hid (repN r p.code p.V = if p.code ≠ 0 then [r.fc.toNat + 128, p.code.toNat] else if rdF r = true then (if biF r = true then r.fc.toNat :: (bits p.V).length :: bits p.V else r.fc.toNat :: (wb p.V).length :: wb p.V) else if 0 < r.q then (putR (fo r.fc) r).take 5 else putR (fo r.fc) r) := Lib.hid rfl
  generalize putR (fo r.fc) r = L at PU PL PB HREP
  generalize rdF r = rd at RD hf PL HREP hq15 hrd125 HBR
  generalize biF r = bi at RD hf HREP hrd125 HBR
  have HF := Lib.hid hf
  have HQ15 := Lib.hid hq15
  have HRD125 := Lib.hid hrd125
  clear hP hr hp ho hri hm hk hrf hf hq15 hrd125
  obtain ⟨fc, ad, q, vs, vn, vc, V, rto⟩ := r
  obtain ⟨code, us, un, uc, U⟩ := p
  simp only [rv, rpv] at RY PU RD hf1 hf2 hq1 hq2 hln HF HQ15 HRD125 hc ⊢
  obtain ⟨fc, rfl⟩ : ∃ k : Nat, fc = (k : Int) := ⟨fc.toNat, by omega⟩
  have k1 := alloc_bq w (.cells #[.int .i64 (fc : Int), .int .i64 ad, .int .i64 q, .slice vs vn vc, .int .i64 rto] 32 (0, 0))
  have k2 := alloc_bq (w.alloc (.cells #[.int .i64 (fc : Int), .int .i64 ad, .int .i64 q, .slice vs vn vc, .int .i64 rto] 32 (0, 0))) (.cells #[.int .i64 code, .slice us un uc] 40 (0, 0))
  have bw := k1.trans (k2.mono k1.size)
  have hx := low_of k2 (heap_alloc_new w (.cells #[.int .i64 (fc : Int), .int .i64 ad, .int .i64 q, .slice vs vn vc, .int .i64 rto] 32 (0, 0)))
  have hy := heap_alloc_new (w.alloc (.cells #[.int .i64 (fc : Int), .int .i64 ad, .int .i64 q, .slice vs vn vc, .int .i64 rto] 32 (0, 0))) (.cells #[.int .i64 code, .slice us un uc] 40 (0, 0))
  rw [World.size_alloc] at hy
  have HX := Lib.hid hx
  have HY := Lib.hid hy
  have BW := Lib.hid bw
  have R1 := Lib.hid (RY.out _ bw)
  have HRW := Lib.hid (fun W (h : Below w.heap.size w W) => HRW0.out.below h)
  clear k1 k2 bw hx hy HRW0
  obtain ⟨h1, h4, hU⟩ := HF.out.1 hc
  obtain ⟨code, rfl⟩ : ∃ k : Nat, code = (k : Int) := ⟨code.toNat, by omega⟩
  have FIN : Hid (∀ W' v, OwnV w.heap.size W' v [fc + 128, code] → Below w.heap.size w W' → P (.returned v) W') := Lib.hid (fun W' v h1 h2 => by
    rw [HP.out, HREP.out, if_pos hc]
    simp only [Int.toNat_natCast]
    exact ⟨v, rfl, h1, h2⟩)
  have c1 : IntKind.u8.wrap ((fc : Int) + 128) = (fc : Int) + 128 := by simp [IntKind.wrap, IntKind.bits, IntKind.signed]; omega
  have c2 : IntKind.u8.wrap (code : Int) = (code : Int) := by simp [IntKind.wrap, IntKind.bits, IntKind.signed]; omega
  have c3 : wrap64 ((fc : Int) + 128) = (fc : Int) + 128 := by unfold wrap64; omega
  have n0 : ¬ code = 0 := by omega
  clear hU hc HREP h1 h4
  go_enter Try.func31, Try.ntmps31
  go_wp2_with fail
  refine R1.out.mono ?_
  rintro e w1 ⟨rfl, z1⟩
  have hx1 := low_of z1 HX.out
  have hy1 := low_of z1 HY.out
  obtain ⟨x0, x1, x2, x3, x4⟩ := cells5 hx1
  obtain ⟨y0, y1⟩ := cells2q hy1
  have HX1 := Lib.hid hx1
  have HY1 := Lib.hid hy1
  have B1 := Lib.hid (BW.out.trans (Below.mono z1 BW.out.size))
  clear z1 hx1 hy1
  have FF := FIN.out (w1.alloc (.cells #[.int .u8 ((fc : Int) + 128), .int .u8 (code : Int)] 5 (0, 0))) (.slice (some ⟨w1.heap.size, 0, none⟩) 2 2) ⟨rfl, .inr ⟨w1.heap.size, 2, #[.int .u8 ((fc : Int) + 128), .int .u8 (code : Int)], rfl, B1.out.size, heap_alloc_new _ _, Nat.le_refl _, by unfold maxLen; omega, rfl, by simp [bv]⟩⟩ (B1.out.alloc (o := .cells #[.int .u8 ((fc : Int) + 128), .int .u8 (code : Int)] 5 (0, 0)) B1.out.size)
  have HFF := Lib.hid FF
  clear FF
  go_wp2_with fail
  exact HFF.out
set_option maxRecDepth 100000 in
set_option maxHeartbeats 8000000 in
theorem putY_ok (r : Rq) (p : Rp) (w : World) (hr : r.ok w) (hp : p.ok w) (ho : okR r p.code p.V = true) (hc : p.code = 0) : Calls Try.prog 31 #[rv r, rpv p] w (OutP w (repN r p.code p.V)) := by
  obtain ⟨P, hP⟩ : ∃ P, P = (OutP w (repN r p.code p.V) : Ending → World → Prop) := ⟨_, rfl⟩
  rw [← hP]
  have HP := Lib.hid hP
  have RY := Lib.hid (fun W (h : Below w.heap.size w W) => rightY_any r p W (hr.below h) (hp.below h) ho)
  have hri : rightR r = true := by unfold okR at ho; rw [Bool.and_eq_true] at ho; exact ho.1
  have hm : mayB r.q (rdF r) (biF r) p.code p.V = true := by unfold okR at ho; rw [Bool.and_eq_true] at ho; exact ho.2
  obtain ⟨hk, hf1, hf2, hq1, hq2⟩ := right_facts hri
  have hf := mayB_facts hm
  have hln := hp.arg.row.ln
  have HRW0 := Lib.hid hp.arg.row
  have PU := Lib.hid (fun W (h : Below w.heap.size w W) => putD_any r W (hr.below h) hri)
  have PL := Lib.hid (fun hrd => put5 hri hrd)
  have PB : Hid (∀ b ∈ putR (fo r.fc) r, b < 256) := Lib.hid (put_by (rt_of hri).k hr (rt_of hri).hh (by omega) (by omega))
  have RD := Lib.hid (fun W => reads14_any r.fc W)
  have hrf := reads14_fo hk
  rw [hrf.1, hrf.2] at RD
  have hq15 := wr_q hri
  have hrd125 := rd_q hri
  have HBR : Hid (rdF r = false → biF r = false) := Lib.hid (by intro e; unfold biF; unfold rdF at e; rw [e]; rfl)
  rw [show (fo r.fc).rd = rdF r from rfl, show (rdF r && (fo r.fc).bi) = biF r from rfl] at RD
  have HREP : Hid (repN r p.code p.V = if p.code ≠ 0 then [r.fc.toNat + 128, p.code.toNat] else if rdF r = true then (if biF r = true then r.fc.toNat :: (bits p.V).length :: bits p.V else r.fc.toNat :: (wb p.V).length :: wb p.V) else if 0 < r.q then (putR (fo r.fc) r).take 5 else putR (fo r.fc) r) := Lib.hid rfl
  generalize putR (fo r.fc) r = L at PU PL PB HREP
  generalize rdF r = rd at RD hf PL HREP hq15 hrd125 HBR
  generalize biF r = bi at RD hf HREP hrd125 HBR
  have HF := Lib.hid hf
  have HQ15 := Lib.hid hq15
  have HRD125 := Lib.hid hrd125
  clear hP hr hp ho hri hm hk hrf hf hq15 hrd125
  obtain ⟨fc, ad, q, vs, vn, vc, V, rto⟩ := r
  obtain ⟨code, us, un, uc, U⟩ := p
  simp only [rv, rpv] at RY PU RD hf1 hf2 hq1 hq2 hln HF HQ15 HRD125 hc ⊢
  obtain ⟨fc, rfl⟩ : ∃ k : Nat, fc = (k : Int) := ⟨fc.toNat, by omega⟩
  have k1 := alloc_bq w (.cells #[.int .i64 (fc : Int), .int .i64 ad, .int .i64 q, .slice vs vn vc, .int .i64 rto] 32 (0, 0))
  have k2 := alloc_bq (w.alloc (.cells #[.int .i64 (fc : Int), .int .i64 ad, .int .i64 q, .slice vs vn vc, .int .i64 rto] 32 (0, 0))) (.cells #[.int .i64 code, .slice us un uc] 40 (0, 0))
  have bw := k1.trans (k2.mono k1.size)
  have hx := low_of k2 (heap_alloc_new w (.cells #[.int .i64 (fc : Int), .int .i64 ad, .int .i64 q, .slice vs vn vc, .int .i64 rto] 32 (0, 0)))
  have hy := heap_alloc_new (w.alloc (.cells #[.int .i64 (fc : Int), .int .i64 ad, .int .i64 q, .slice vs vn vc, .int .i64 rto] 32 (0, 0))) (.cells #[.int .i64 code, .slice us un uc] 40 (0, 0))
  rw [World.size_alloc] at hy
  have HX := Lib.hid hx
  have HY := Lib.hid hy
  have BW := Lib.hid bw
  have R1 := Lib.hid (RY.out _ bw)
  have HRW := Lib.hid (fun W (h : Below w.heap.size w W) => HRW0.out.below h)
  clear k1 k2 bw hx hy HRW0
  subst hc
  have HREP2 : Hid (repN ⟨(fc : Int), ad, q, vs, vn, vc, V, rto⟩ 0 U = _) := Lib.hid (HREP.out.trans (if_neg (by simp)))
  have c1 : IntKind.u8.wrap (fc : Int) = (fc : Int) := by simp [IntKind.wrap, IntKind.bits, IntKind.signed]; omega
  cases rd with
  | true =>
    obtain ⟨hq, hb⟩ := HF.out.2.2 rfl rfl
    have hun : (un : Int) = q := by rw [← hq, hln]
    cases bi with
    | true =>
      have HLN : Hid ((bits U).length ≤ 255 ∧ (bits U).length ≤ 4096) := Lib.hid (by rw [bits_len]; omega)
      have FIN : Hid (∀ W' v, OwnV w.heap.size W' v (fc :: (bits U).length :: bits U) → Below w.heap.size w W' → P (.returned v) W') := Lib.hid (fun W' v h1 h2 => by
        rw [HP.out, HREP2.out]
        simp only [if_true, Int.toNat_natCast, Bool.false_eq_true, if_false]
        exact ⟨v, rfl, h1, h2⟩)
      have hM2 : (bits U).length ≤ 255 := HLN.out.1
      have hu2 : un ≤ 2000 := by omega
      clear HREP HREP2 HF hq hb hln hun
      go_enter Try.func31, Try.ntmps31
      go_wp2_with fail
      refine R1.out.mono ?_
      rintro e w1 ⟨rfl, z1⟩
      have hx1 := low_of z1 HX.out
      have hy1 := low_of z1 HY.out
      obtain ⟨x0, x1, x2, x3, x4⟩ := cells5 hx1
      obtain ⟨y0, y1⟩ := cells2q hy1
      have HX1 := Lib.hid hx1
      have HY1 := Lib.hid hy1
      have B1 := Lib.hid (BW.out.trans (Below.mono z1 BW.out.size))
      clear z1 hx1 hy1
      have w1' := HRW.out w1 B1.out
      have HW1 := Lib.hid w1'
      clear w1'
      go_wp2_with fail
      refine (RD.out _).mono ?_
      rintro e w2 ⟨rfl, e2⟩
      rw [e2]
      clear e2
      go_wp2_with fail
      refine (words14_any us un uc U _ HW1.out (by omega)).mono ?_
      rintro e w5 ⟨v5, rfl, ho5, z5⟩
      obtain ⟨a5, c5, hv5, hab5, _⟩ := OwnV.argB ho5 (wb_by HW1.out.by')
      subst hv5
      have HB5 := Lib.hid hab5
      have B5 := Lib.hid (B1.out.trans (Below.mono z5 B1.out.size))
      have HX5 := Lib.hid (low_of z5 HX1.out)
      have HY5 := Lib.hid (low_of z5 HY1.out)
      have HW5 := Lib.hid (HRW.out w5 B5.out)
      obtain ⟨x0, x1, x2, x3, x4⟩ := cells5 HX5.out
      obtain ⟨y0, y1⟩ := cells2q HY5.out
      clear ho5 z5 hab5
      go_wp2_with fail
      refine (bitsD_any us un uc U _ HW5.out (by omega)).mono ?_
      rintro e w6 ⟨g6, rfl, hg6, hs6, z6⟩
      have HB6 := Lib.hid (bys_block (t := 5) (m := (0, 0)) (bits U) (by unfold maxLen; have := HLN.out.2; omega) (bits_by U) hg6)
      have B6 := Lib.hid (B5.out.trans (Below.mono z6 B5.out.size))
      obtain ⟨x0, x1, x2, x3, x4⟩ := cells5 (low_of z6 HX5.out)
      clear hg6 hs6 z6 B5
      obtain ⟨m, hm⟩ : ∃ m, m = (bits U).length := ⟨_, rfl⟩
      rw [← hm] at hM2 ⊢
      have HM := Lib.hid hm
      have c2 : IntKind.u8.wrap (m : Int) = (m : Int) := by simp [IntKind.wrap, IntKind.bits, IntKind.signed]; omega
      clear hm
      go_wp2_with (at_builtin; refine wpList_append_bys rfl (.tmp 44) (.tmp 45) rfl w.heap.size _ ?hB (.slice (some ⟨w6.heap.size, 0, none⟩) 2 2) 2 [fc, m] rfl ?own (some ⟨g6, 0, none⟩) m m (bits U) rfl ?hby ?nil ?le ?_)
      case hB => simp; have := B6.out.size; omega
      case own => exact ⟨rfl, .inr ⟨w6.heap.size, 2, #[.int .u8 (fc : Int), .int .u8 (m : Int)], rfl, B6.out.size, heap_alloc_new _ _, Nat.le_refl _, by unfold maxLen; omega, rfl, rfl⟩⟩
      case hby => rw [HM.out]; exact (HB6.out).below (alloc_bq _ _)
      case nil => exact fun e => by cases e
      case le => omega
      intro v2 w2 ho2 hg2 _ _
      have hb2 : Below w.heap.size w w2 := (B6.out.alloc B6.out.size _).grown hg2 (by simp; have := B6.out.size; omega) (fun k hk => by simp only [Value.ownBlock, Option.some.injEq] at hk; have := B6.out.size; omega)
      have HF := Lib.hid (FIN.out w2 v2 (by
        unfold OwnV
        rw [show (fc :: (bits U).length :: bits U).length = 2 + m by simp [HM.out]; omega, ← HM.out]
        exact ho2) hb2)
      clear ho2 hg2 hb2
      go_wp2_with fail
      exact HF.out
    | false =>
      have HLN : Hid ((wb U).length ≤ 255 ∧ (wb U).length ≤ 4096) := Lib.hid (by rw [wb_len]; have := HRD125.out rfl rfl; omega)
      have FIN : Hid (∀ W' v, OwnV w.heap.size W' v (fc :: (wb U).length :: wb U) → Below w.heap.size w W' → P (.returned v) W') := Lib.hid (fun W' v h1 h2 => by
        rw [HP.out, HREP2.out]
        simp only [if_true, Int.toNat_natCast, Bool.false_eq_true, if_false]
        exact ⟨v, rfl, h1, h2⟩)
      have hM2 : (wb U).length ≤ 255 := HLN.out.1
      have hu2 : un ≤ 2000 := by omega
      clear HREP HREP2 HF hq hb hln hun
      go_enter Try.func31, Try.ntmps31
      go_wp2_with fail
      refine R1.out.mono ?_
      rintro e w1 ⟨rfl, z1⟩
      have hx1 := low_of z1 HX.out
      have hy1 := low_of z1 HY.out
      obtain ⟨x0, x1, x2, x3, x4⟩ := cells5 hx1
      obtain ⟨y0, y1⟩ := cells2q hy1
      have HX1 := Lib.hid hx1
      have HY1 := Lib.hid hy1
      have B1 := Lib.hid (BW.out.trans (Below.mono z1 BW.out.size))
      clear z1 hx1 hy1
      have w1' := HRW.out w1 B1.out
      have HW1 := Lib.hid w1'
      clear w1'
      go_wp2_with fail
      refine (RD.out _).mono ?_
      rintro e w2 ⟨rfl, e2⟩
      rw [e2]
      clear e2
      go_wp2_with fail
      refine (words14_any us un uc U _ HW1.out (by omega)).mono ?_
      rintro e w5 ⟨v5, rfl, ho5, z5⟩
      obtain ⟨a5, c5, hv5, hab5, _⟩ := OwnV.argB ho5 (wb_by HW1.out.by')
      subst hv5
      have HB5 := Lib.hid hab5
      have B5 := Lib.hid (B1.out.trans (Below.mono z5 B1.out.size))
      have HX5 := Lib.hid (low_of z5 HX1.out)
      have HY5 := Lib.hid (low_of z5 HY1.out)
      have HW5 := Lib.hid (HRW.out w5 B5.out)
      obtain ⟨x0, x1, x2, x3, x4⟩ := cells5 HX5.out
      obtain ⟨y0, y1⟩ := cells2q HY5.out
      clear ho5 z5 hab5
      obtain ⟨m, hm⟩ : ∃ m, m = (wb U).length := ⟨_, rfl⟩
      rw [← hm] at hM2 ⊢
      have HM := Lib.hid hm
      have c2 : IntKind.u8.wrap (m : Int) = (m : Int) := by simp [IntKind.wrap, IntKind.bits, IntKind.signed]; omega
      clear hm
      go_wp2_with (at_builtin; refine wpList_append_bys rfl (.tmp 44) (.tmp 45) rfl w.heap.size _ ?hB (.slice (some ⟨w5.heap.size, 0, none⟩) 2 2) 2 [fc, m] rfl ?own a5 m c5 (wb U) rfl ?hby ?nil ?le ?_)
      case hB => simp; have := B5.out.size; omega
      case own => exact ⟨rfl, .inr ⟨w5.heap.size, 2, #[.int .u8 (fc : Int), .int .u8 (m : Int)], rfl, B5.out.size, heap_alloc_new _ _, Nat.le_refl _, by unfold maxLen; omega, rfl, rfl⟩⟩
      case hby => rw [HM.out]; exact (HB5.out.row).below (alloc_bq _ _)
      case nil => exact fun e => (HB5.out.nil e).2
      case le => omega
      intro v2 w2 ho2 hg2 _ _
      have hb2 : Below w.heap.size w w2 := (B5.out.alloc B5.out.size _).grown hg2 (by simp; have := B5.out.size; omega) (fun k hk => by simp only [Value.ownBlock, Option.some.injEq] at hk; have := B5.out.size; omega)
      have HF := Lib.hid (FIN.out w2 v2 (by
        unfold OwnV
        rw [show (fc :: (wb U).length :: wb U).length = 2 + m by simp [HM.out]; omega, ← HM.out]
        exact ho2) hb2)
      clear ho2 hg2 hb2
      go_wp2_with fail
      exact HF.out
  | false =>
    have hbf := HBR.out rfl
    subst hbf
    have hPL := PL.out rfl
    have HPL := Lib.hid hPL
    have hqq := HQ15.out rfl
    by_cases hq0 : 0 < q
    · have FIN : Hid (∀ W' v, OwnV w.heap.size W' v (L.take 5) → Below w.heap.size w W' → P (.returned v) W') := Lib.hid (fun W' v h1 h2 => by
        rw [HP.out, HREP2.out]
        simp only [Bool.false_eq_true, if_false, if_pos hq0]
        exact ⟨v, rfl, h1, h2⟩)
      have h1516 := hqq.1 hq0
      have t15 : ∀ (X : Prop), ((fc : Int) == 15) = true ∨ (((fc : Int) == 15) = false ∧ ((fc : Int) == 16) = true) := by
        intro X
        rcases h1516 with h | h
        · left; simp; omega
        · right; simp; omega
      clear HREP HREP2 HF hqq h1516 hln hPL
      rcases t15 True with t15 | ⟨t15, t16⟩
      all_goals
        clear hq0
        go_enter Try.func31, Try.ntmps31
        go_wp2_with fail
        refine R1.out.mono ?_
        rintro e w1 ⟨rfl, z1⟩
        have hx1 := low_of z1 HX.out
        have hy1 := low_of z1 HY.out
        obtain ⟨x0, x1, x2, x3, x4⟩ := cells5 hx1
        obtain ⟨y0, y1⟩ := cells2q hy1
        have HX1 := Lib.hid hx1
        have HY1 := Lib.hid hy1
        have B1 := Lib.hid (BW.out.trans (Below.mono z1 BW.out.size))
        clear z1 hx1 hy1
        go_wp2_with fail
        refine (RD.out _).mono ?_
        rintro e w2 ⟨rfl, e2⟩
        rw [e2]
        clear e2
        go_wp2_with fail
        refine (PU.out _ B1.out).mono ?_
        rintro e w5 ⟨v5, rfl, ho5, z5⟩
        obtain ⟨a5, c5, hv5, hab5, _⟩ := OwnV.argB ho5 PB.out
        subst hv5
        have O5 := Lib.hid (OwnV.mono ho5 B1.out.size)
        have HB5 := Lib.hid hab5
        have B5 := Lib.hid (B1.out.trans (Below.mono z5 B1.out.size))
        obtain ⟨x0, x1, x2, x3, x4⟩ := cells5 (low_of z5 HX1.out)
        have hle := hab5.le
        have h5 := HPL.out
        obtain ⟨n5, hn5⟩ : ∃ n, n = L.length := ⟨_, rfl⟩
        rw [← hn5] at hle h5 ⊢
        have HN5 := Lib.hid hn5
        clear ho5 z5 hab5 hn5
        go_wp2_with (at_builtin; refine wpList_append_bys rfl (.tmp 57) (.tmp 59) rfl w.heap.size _ ?hB (.slice (some ⟨w5.heap.size, 0, none⟩) 0 0) 0 [] rfl ?own a5 5 c5 (L.take 5) rfl ?hby ?nil ?le ?_)
        case hB => simp; have := B5.out.size; omega
        case own => exact own_new B5.out.size
        case hby => exact (HB5.out.row.take 5 (by have := HN5.out; omega)).below (alloc_bq _ _)
        case nil => exact fun e => (HB5.out.nil e).2
        case le => omega
        intro v2 w2 ho2 hg2 _ _
        have hb2 : Below w.heap.size w w2 := (B5.out.alloc B5.out.size _).grown hg2 (by simp; have := B5.out.size; omega) (fun k hk => by simp only [Value.ownBlock, Option.some.injEq] at hk; have := B5.out.size; omega)
        have HF := Lib.hid (FIN.out w2 v2 (by
          unfold OwnV
          rw [List.length_take, Nat.min_eq_left HPL.out]
          simpa using ho2) hb2)
        clear ho2 hg2 hb2
        go_wp2_with fail
        exact HF.out
    · have FIN : Hid (∀ W' v, OwnV w.heap.size W' v L → Below w.heap.size w W' → P (.returned v) W') := Lib.hid (fun W' v h1 h2 => by
        rw [HP.out, HREP2.out]
        simp only [Bool.false_eq_true, if_false, if_neg hq0]
        exact ⟨v, rfl, h1, h2⟩)
      have t15 : ((fc : Int) == 15) = false := by
        rw [beq_eq_false_iff_ne]; intro h; exact hq0 (hqq.2 (.inl (by omega)))
      have t16 : ((fc : Int) == 16) = false := by
        rw [beq_eq_false_iff_ne]; intro h; exact hq0 (hqq.2 (.inr (by omega)))
      clear HREP HREP2 HF hqq hln hPL hq0
      go_enter Try.func31, Try.ntmps31
      go_wp2_with fail
      refine R1.out.mono ?_
      rintro e w1 ⟨rfl, z1⟩
      have hx1 := low_of z1 HX.out
      have hy1 := low_of z1 HY.out
      obtain ⟨x0, x1, x2, x3, x4⟩ := cells5 hx1
      obtain ⟨y0, y1⟩ := cells2q hy1
      have HX1 := Lib.hid hx1
      have HY1 := Lib.hid hy1
      have B1 := Lib.hid (BW.out.trans (Below.mono z1 BW.out.size))
      clear z1 hx1 hy1
      go_wp2_with fail
      refine (RD.out _).mono ?_
      rintro e w2 ⟨rfl, e2⟩
      rw [e2]
      clear e2
      go_wp2_with fail
      refine (PU.out _ B1.out).mono ?_
      rintro e w5 ⟨v5, rfl, ho5, z5⟩
      obtain ⟨a5, c5, hv5, hab5, _⟩ := OwnV.argB ho5 PB.out
      subst hv5
      have O5 := Lib.hid (OwnV.mono ho5 B1.out.size)
      have HB5 := Lib.hid hab5
      have B5 := Lib.hid (B1.out.trans (Below.mono z5 B1.out.size))
      obtain ⟨x0, x1, x2, x3, x4⟩ := cells5 (low_of z5 HX1.out)
      have hle := hab5.le
      have h5 := HPL.out
      obtain ⟨n5, hn5⟩ : ∃ n, n = L.length := ⟨_, rfl⟩
      rw [← hn5] at hle h5 ⊢
      have HN5 := Lib.hid hn5
      clear ho5 z5 hab5 hn5
      go_wp2_with fail
      rw [HN5.out] 
      exact FIN.out _ _ O5.out B5.out
theorem putY_any (r : Rq) (p : Rp) (w : World) (hr : r.ok w) (hp : p.ok w) (ho : okR r p.code p.V = true) : Calls Try.prog 31 #[rv r, rpv p] w (OutP w (repN r p.code p.V)) := by
  by_cases hc : p.code = 0
  · exact putY_ok r p w hr hp ho hc
  · exact putY_ex r p w hr hp ho hc
end Go.Proofs.Ytdolgpogjnfpkaa
