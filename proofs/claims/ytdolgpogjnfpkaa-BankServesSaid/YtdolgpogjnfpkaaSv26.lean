/- The document's Get of an answer that may be: it is told as it was. -/
import Derived.Test.YtdolgpogjnfpkaaSv25
import Derived.Deep.RegionHeld
import Derived.Deep.RegionHeld3
namespace Go.Proofs.Ytdolgpogjnfpkaa
set_option linter.unusedVariables false
set_option linter.unusedSimpArgs false
open Go.ChangeShapes Go.WideShapes Go.ChangeAt Go.RowKit

abbrev Z40 : Obj := .cells #[.int .i64 0, .slice none 0 0] 40 (0, 0)
def BackP (w : World) (code : Int) (V : List Nat) (e : Ending) (w' : World) : Prop := ∃ a n c, e = .returned (.tuple #[.agg #[.int .i64 code, .slice a n c], .int .i64 (if code = 0 then 0 else 52)]) ∧ ArgW w' a n c V ∧ Below w.heap.size w w'
theorem argw_p1 {W : World} {r : Nat} {vs : Option Addr} {vn vc : Nat} {V : List Nat} (h : ArgW W vs vn vc V) (hz : W.heap[r]? = some Z40) (v : Value) : ArgW (W.setCell ⟨r, 1, none⟩ v) vs vn vc V := by
  refine ⟨⟨h.row.ln, h.row.le, h.row.by', ?_⟩, h.nil, h.le, h.mx⟩
  rcases h.row.at' with z | ⟨b, off, e, hlt, hc⟩
  · exact .inl z
  · by_cases h0 : vn = 0
    · exact .inl h0
    · have hne : b ≠ r := by
        rintro rfl
        have := hc 0 (by omega)
        rw [Nat.add_zero] at this
        simp [World.cell?, hz] at this
        rcases off with _ | _ | off <;> simp at this
      refine .inr ⟨b, off, e, by simpa [World.setCell] using hlt, fun i hi => ?_⟩
      exact (World.cell?_of_block (a := ⟨b, off + i, none⟩) (Below.heap_setCell _ _ _ _ hne)).trans (hc i hi)
set_option maxRecDepth 100000 in
set_option maxHeartbeats 8000000 in
theorem getY_ex (r : Rq) (code : Int) (V : List Nat) (a : Option Addr) (n c : Nat) (w : World) (hr : r.ok w) (ho : okR r code V = true) (hc : code ≠ 0) (hA : ArgB w a n c (repN r code V)) : Calls Try.prog 26 #[rv r, .slice a n c] w (BackP w code V) := by
  obtain ⟨P, hP⟩ : ∃ P, P = (BackP w code V : Ending → World → Prop) := ⟨_, rfl⟩
  rw [← hP]
  have HP := Lib.hid hP
  have hri : rightR r = true := by unfold okR at ho; rw [Bool.and_eq_true] at ho; exact ho.1
  have hm : mayB r.q (rdF r) (biF r) code V = true := by unfold okR at ho; rw [Bool.and_eq_true] at ho; exact ho.2
  obtain ⟨hk, hf1, hf2, hq1, hq2⟩ := right_facts hri
  obtain ⟨h1, h4, hV⟩ := (mayB_facts hm).1 hc
  have RY := Lib.hid (fun W us un uc (h : Below w.heap.size w W) (hU : ArgW W us un uc V) => rightY_any r ⟨code, us, un, uc, V⟩ W (hr.below h) ⟨hU, wf_i64 (by simp; omega) (by simp; omega)⟩ ho)
  have PY := Lib.hid (fun W us un uc (h : Below w.heap.size w W) (hU : ArgW W us un uc V) => putY_any r ⟨code, us, un, uc, V⟩ W (hr.below h) ⟨hU, wf_i64 (by simp; omega) (by simp; omega)⟩ ho)
  subst hV
  have hrep : repN r code [] = [r.fc.toNat + 128, code.toNat] := by unfold repN; rw [if_pos hc]
  rw [hrep] at hA
  simp only at PY
  rw [hrep] at PY
  have hln := hA.row.ln
  simp only [List.length_cons, List.length_nil] at hln
  subst hln
  obtain ⟨code, rfl⟩ : ∃ k : Nat, code = (k : Int) := ⟨code.toNat, by omega⟩
  obtain ⟨fc, ad, q, vs, vn, vc, U, rto⟩ := r
  simp only at hf1 hf2 hA PY
  obtain ⟨fc, rfl⟩ : ∃ k : Nat, fc = (k : Int) := ⟨fc.toNat, by omega⟩
  simp only [rv, rpv, Int.toNat_natCast] at RY PY hA ⊢
  obtain ⟨SX, hsx⟩ : ∃ s, s = strN [fc + 128, code] := ⟨_, rfl⟩
  have HCV : Hid (∀ W, Below w.heap.size w W → (convert 33 9 (.slice a 2 c)).run Try.prog W = .ok (.string SX) W) := Lib.hid (fun W hb => by rw [hsx]; exact conv_bys (hA.row.below hb))
  have PY2 : Hid (∀ W us un uc, Below w.heap.size w W → ArgW W us un uc [] → Calls Try.prog 31 #[.agg #[.int .i64 fc, .int .i64 ad, .int .i64 q, .slice vs vn vc, .int .i64 rto], .agg #[.int .i64 code, .slice us un uc]] W (fun e w5 => ∃ a6 m6 c6, e = .returned (.slice a6 m6 c6) ∧ (convert 33 9 (.slice a6 m6 c6)).run Try.prog w5 = .ok (.string SX) w5 ∧ Below W.heap.size W w5)) := Lib.hid (by
    intro W us un uc h1 h2
    refine (PY.out W us un uc h1 h2).mono ?_
    rintro e w5 ⟨v, rfl, ho, z5⟩
    obtain ⟨a6, c6, rfl, hA6, _⟩ := OwnV.argB ho (by intro b hb; simp at hb; omega)
    exact ⟨a6, _, c6, rfl, by rw [hsx]; exact conv_bys hA6.row, z5⟩)
  obtain ⟨b, off, rfl, hbl, hcc⟩ := hA.row.pos (by omega)
  have cb0 : w.cell? ⟨b, off, none⟩ = some (.int .u8 ((fc : Int) + 128)) := by have := hcc 0 (by omega); simpa using this
  have cb1 : w.cell? ⟨b, off + 1, none⟩ = some (.int .u8 (code : Int)) := by have := hcc 1 (by omega); simpa using this
  have k1 := alloc_bq w (.cells #[.int .i64 (fc : Int), .int .i64 ad, .int .i64 q, .slice vs vn vc, .int .i64 rto] 32 (0, 0))
  have k2 := alloc_bq (w.alloc (.cells #[.int .i64 (fc : Int), .int .i64 ad, .int .i64 q, .slice vs vn vc, .int .i64 rto] 32 (0, 0))) Z40
  have k3 := alloc_bq ((w.alloc (.cells #[.int .i64 (fc : Int), .int .i64 ad, .int .i64 q, .slice vs vn vc, .int .i64 rto] 32 (0, 0))).alloc Z40) Z40
  clear PY hsx hcc hr ho hri hm hk hrep hP
  have u0 : IntKind.i64.wrap ((fc : Int) + 128) = (fc : Int) + 128 := IntWalk.i64_in _ (by omega)
  have u1 : IntKind.i64.wrap (code : Int) = (code : Int) := IntWalk.i64_in _ (by omega)
  go_enter Try.func26, Try.ntmps26
  go_upto_region 2 with fail
  obtain ⟨W, hW⟩ : ∃ W, W = ((w.alloc (.cells #[.int .i64 (fc : Int), .int .i64 ad, .int .i64 q, .slice vs vn vc, .int .i64 rto] 32 (0, 0))).alloc Z40).alloc Z40 := ⟨_, rfl⟩
  have bw : Below w.heap.size w W := by rw [hW]; exact (k1.trans (k2.mono k1.size)).trans (k3.mono (k1.trans (k2.mono k1.size)).size)
  have hS : W.heap[w.heap.size]? = some (.cells #[.int .i64 (fc : Int), .int .i64 ad, .int .i64 q, .slice vs vn vc, .int .i64 rto] 32 (0, 0)) := by rw [hW]; exact low_of k3 (low_of k2 (heap_alloc_new _ _))
  have hR : W.heap[w.heap.size + 1]? = some Z40 := by
    rw [hW]; refine low_of k3 ?_
    have := heap_alloc_new (w.alloc (.cells #[.int .i64 (fc : Int), .int .i64 ad, .int .i64 q, .slice vs vn vc, .int .i64 rto] 32 (0, 0))) Z40
    rwa [World.size_alloc] at this
  have hP0 : W.heap[w.heap.size + 1 + 1]? = some Z40 := by
    rw [hW]
    have := heap_alloc_new ((w.alloc (.cells #[.int .i64 (fc : Int), .int .i64 ad, .int .i64 q, .slice vs vn vc, .int .i64 rto] 32 (0, 0))).alloc Z40) Z40
    rwa [World.size_alloc, World.size_alloc] at this
  rw [← hW]
  clear hW k1 k2 k3
  have c0 := (Below.cell bw (p := ⟨b, off, none⟩) hbl).trans cb0
  have c1 := (Below.cell bw (p := ⟨b, off + 1, none⟩) hbl).trans cb1
  obtain ⟨x0, x1, x2, x3, x4⟩ := cells5 hS
  have f0 := froz (i := 0) hP0
  have f1 := froz (i := 1) hP0
  obtain ⟨p0, p1⟩ := cells2q hP0
  have BW := Lib.hid bw
  have HS := Lib.hid hS
  have HR := Lib.hid hR
  have HP0 := Lib.hid hP0
  clear bw hS hR hP0 cb0 cb1
  go_quiet (fail)
  go_upto_region 10 with fail
  obtain ⟨W2, hW2⟩ : ∃ W2, W2 = ((W.drewN nq).setCell ⟨w.heap.size + 1 + 1, 0, none⟩ (.int .i64 (code : Int))) := ⟨_, rfl⟩
  have bw2 : Below w.heap.size w W2 := by rw [hW2]; exact (below_drewN BW.out _).setCell (show w.heap.size ≤ w.heap.size + 1 + 1 by omega) _
  have hS2 : W2.heap[w.heap.size]? = some (.cells #[.int .i64 (fc : Int), .int .i64 ad, .int .i64 q, .slice vs vn vc, .int .i64 rto] 32 (0, 0)) := by
    rw [hW2]; exact (Below.heap_setCell _ _ _ _ (by simp; omega)).trans HS.out
  have hR2 : W2.heap[w.heap.size + 1]? = some Z40 := by
    rw [hW2]; exact (Below.heap_setCell _ _ _ _ (by simp)).trans HR.out
  have hP2 : W2.heap[w.heap.size + 1 + 1]? = some (.cells #[.int .i64 (code : Int), .slice none 0 0] 40 (0, 0)) := by
    rw [hW2, World.setCell]
    simp [Array.getElem?_modify, HP0.out]
  rw [← hW2]
  have hU2 : ArgW W2 none 0 0 [] := argW_noB _
  have t0 : ((code : Int) != 0) = true := by simp; omega
  clear hW2
  have BW2 := Lib.hid bw2
  have HS2 := Lib.hid hS2
  have HR2 := Lib.hid hR2
  have HP2 := Lib.hid hP2
  have HU2 := Lib.hid hU2
  have KS : Hid (∀ w', Gd W2 w' → w'.cell? ⟨w.heap.size, 0, none⟩ = some (.int .i64 (fc : Int)) ∧ w'.cell? ⟨w.heap.size, 1, none⟩ = some (.int .i64 ad) ∧ w'.cell? ⟨w.heap.size, 2, none⟩ = some (.int .i64 q) ∧ w'.cell? ⟨w.heap.size, 3, none⟩ = some (.slice vs vn vc) ∧ w'.cell? ⟨w.heap.size, 4, none⟩ = some (.int .i64 rto) ∧ w'.cell? ⟨w.heap.size + 1 + 1, 0, none⟩ = some (.int .i64 (code : Int)) ∧ w'.cell? ⟨w.heap.size + 1 + 1, 1, none⟩ = some (.slice none 0 0) ∧ (convert 33 9 (.slice (some ⟨b, off, none⟩) 2 c)).run Try.prog w' = .ok (.string SX) w') := Lib.hid (by
    intro w' h
    obtain ⟨h0, h1, h2, h3, h4⟩ := cells5 (low_of h HS2.out)
    obtain ⟨h5, h6⟩ := cells2q (low_of h HP2.out)
    exact ⟨h0, h1, h2, h3, h4, h5, h6, HCV.out w' (BW2.out.trans (Below.mono h BW2.out.size))⟩)
  have RA2 := Lib.hid (fun (w' : World) (h : Gd W2 w') => RY.out w' none 0 0 (BW2.out.trans (Below.mono h BW2.out.size)) (HU2.out.below h))
  have PA2 := Lib.hid (fun (w' : World) (h : Gd W2 w') => PY2.out w' none 0 0 (BW2.out.trans (Below.mono h BW2.out.size)) (HU2.out.below h))
  have g0 : Gd W2 W2.drew := (Below.refl _ _).drew
  have h0 := KS.out _ g0
  clear bw2 hS2 hR2 hP2 hU2 c0 c1 x0 x1 x2 x3 x4 f0 f1 p0 p1
  go_region_held (fun w' => w'.cell? ⟨w.heap.size, 0, none⟩ = some (.int .i64 (fc : Int)) ∧ w'.cell? ⟨w.heap.size, 1, none⟩ = some (.int .i64 ad) ∧ w'.cell? ⟨w.heap.size, 2, none⟩ = some (.int .i64 q) ∧ w'.cell? ⟨w.heap.size, 3, none⟩ = some (.slice vs vn vc) ∧ w'.cell? ⟨w.heap.size, 4, none⟩ = some (.int .i64 rto) ∧ w'.cell? ⟨w.heap.size + 1 + 1, 0, none⟩ = some (.int .i64 (code : Int)) ∧ w'.cell? ⟨w.heap.size + 1 + 1, 1, none⟩ = some (.slice none 0 0) ∧ (convert 33 9 (.slice (some ⟨b, off, none⟩) 2 c)).run Try.prog w' = .ok (.string SX) w') (first | exact h0 | exact s5 | exact s6 | go_keep) (first
    | (go_at_call 50; refine (RA2.out _ g0).mono ?_; rintro e w5 ⟨rfl, z5⟩; have q5 : Gd W2 w5 := Gd.step g0 z5; have s5 := KS.out w5 q5; clear z5)
    | (go_at_call 31; refine (PA2.out _ q5).mono ?_; rintro e w6 ⟨a6, m6, c6, rfl, cv6, z6⟩; have q6 : Gd W2 w6 := Gd.step q5 z6; have s6 := KS.out w6 q6; clear z6))
  all_goals
    have BE6 := Lib.hid (BW2.out.trans (Below.mono q6 BW2.out.size))
    have zF := low_of q6 HR2.out
    obtain ⟨d0, d1⟩ := cells2q zF
    have s0 := froz (i := 0) zF
    have s1 := froz (i := 1) zF
    have HZF := Lib.hid zF
    have HU6 := Lib.hid (HU2.out.below q6)
    clear zF q6 q5 g0
    go_wp2_with fail
    refine bodyPost_ret (v := .tuple #[.agg #[.int .i64 (code : Int), .slice none 0 0], .int .i64 52]) (by simp [results, Try.results26, go_sem, d0, d1]) rfl ?_
    rw [HP.out]
    exact ⟨none, 0, 0, by rw [if_neg (by omega)], HU6.out.st2 HZF.out _ _, (BE6.out.setCell (by simp) _).setCell (by simp) _⟩
set_option maxRecDepth 100000 in
set_option maxHeartbeats 8000000 in
theorem getY_words (r : Rq) (V : List Nat) (a : Option Addr) (n c : Nat) (w : World) (hr : r.ok w) (ho : okR r 0 V = true) (hrd : rdF r = true) (hbi : biF r = false) (hV : ∀ v ∈ V, v < 65536) (hA : ArgB w a n c (repN r 0 V)) : Calls Try.prog 26 #[rv r, .slice a n c] w (BackP w 0 V) := by
  obtain ⟨P, hP⟩ : ∃ P, P = (BackP w 0 V : Ending → World → Prop) := ⟨_, rfl⟩
  rw [← hP]
  have HP := Lib.hid hP
  have hri : rightR r = true := by unfold okR at ho; rw [Bool.and_eq_true] at ho; exact ho.1
  have hm : mayB r.q (rdF r) (biF r) 0 V = true := by unfold okR at ho; rw [Bool.and_eq_true] at ho; exact ho.2
  obtain ⟨hk, hf1, hf2, hq1, hq2⟩ := right_facts hri
  have hmf := (mayB_facts hm).2
  have RY := Lib.hid (fun W us un uc (h : Below w.heap.size w W) (hU : ArgW W us un uc V) => rightY_any r ⟨0, us, un, uc, V⟩ W (hr.below h) ⟨hU, show (Lit.int .i64 0).wf = true by decide⟩ ho)
  have PY := Lib.hid (fun W us un uc (h : Below w.heap.size w W) (hU : ArgW W us un uc V) => putY_any r ⟨0, us, un, uc, V⟩ W (hr.below h) ⟨hU, show (Lit.int .i64 0).wf = true by decide⟩ ho)
  have hby := hA.row.by'
  have hln := hA.row.ln
  have RD := Lib.hid (fun W => reads14_any r.fc W)
  have hrf := reads14_fo hk
  rw [hrf.1, hrf.2] at RD
  rw [show (fo r.fc).rd = rdF r from rfl, show (rdF r && (fo r.fc).bi) = biF r from rfl] at RD
  have hq0 : 1 ≤ r.q := by
    have hh := (has_iff _ _).1 (rt_of hri).hh
    have := hh.2.2.2.2.1
    have hk2 := hk
    have hrd2 := hrd
    unfold rdF at hrd2
    generalize fo r.fc = f at this hk2 hrd2
    unfold formOf at hk2
    repeat' split at hk2
    all_goals first | (cases hk2; done) | (injection hk2 with hk2; subst hk2; simp at this hrd2 <;> omega)
  rw [hrd, hbi] at hmf RD
  obtain ⟨hlq, hbv⟩ := hmf.2 rfl rfl
  have hrep : repN r 0 V = r.fc.toNat :: (wb V).length :: wb V := by unfold repN; rw [if_neg (by simp), if_pos hrd, if_neg (by simp [hbi])]
  have hdr : (repN r 0 V).drop 2 = wb V := by rw [hrep]; rfl
  have hn : n = 2 + 2 * V.length := by rw [← hln, hrep]; simp [wb_len]; omega
  have hnq := rd_q hri hrd hbi
  have hlV := wb_len V
  rw [hrep] at hby
  have HU := Lib.hid (unw_wb V hV)
  have HDR := Lib.hid hdr
  rw [← hrep] at hby
  clear hrep hrd hbi hdr hlV hbv
  obtain ⟨D, hD⟩ : ∃ D, D = repN r 0 V := ⟨_, rfl⟩
  simp only at PY
  rw [← hD] at PY hA hby hln
  have HD := Lib.hid hD
  obtain ⟨fc, ad, q, vs, vn, vc, U, rto⟩ := r
  simp only at hf1 hf2 hq1 hq2 hA PY hmf RD hq0 hlq hnq HDR
  obtain ⟨fc, rfl⟩ : ∃ k : Nat, fc = (k : Int) := ⟨fc.toNat, by omega⟩
  simp only [rv, rpv, Int.toNat_natCast] at RY PY hA ⊢
  obtain ⟨SX, hsx⟩ : ∃ s, s = strN D := ⟨_, rfl⟩
  have HCV : Hid (∀ W, Below w.heap.size w W → (convert 33 9 (.slice a n c)).run Try.prog W = .ok (.string SX) W) := Lib.hid (fun W hb => by rw [hsx]; exact conv_bys (hA.row.below hb))
  have PY2 : Hid (∀ W us un uc, Below w.heap.size w W → ArgW W us un uc V → Calls Try.prog 31 #[.agg #[.int .i64 fc, .int .i64 ad, .int .i64 q, .slice vs vn vc, .int .i64 rto], .agg #[.int .i64 0, .slice us un uc]] W (fun e w5 => ∃ a6 m6 c6, e = .returned (.slice a6 m6 c6) ∧ (convert 33 9 (.slice a6 m6 c6)).run Try.prog w5 = .ok (.string SX) w5 ∧ Below W.heap.size W w5)) := Lib.hid (by
    intro W us un uc h1 h2
    refine (PY.out W us un uc h1 h2).mono ?_
    rintro e w5 ⟨v, rfl, ho, z5⟩
    obtain ⟨a6, c6, rfl, hA6, _⟩ := OwnV.argB ho hby
    exact ⟨a6, _, c6, rfl, by rw [hsx]; exact conv_bys hA6.row, z5⟩)
  have ARG := Lib.hid hA
  obtain ⟨b, off, rfl, hbl, hcc⟩ := hA.row.pos (by omega)
  have hc1 := hA.le
  have hc2 := hA.mx
  unfold maxLen at hc2
  have k1 := alloc_bq w (.cells #[.int .i64 (fc : Int), .int .i64 ad, .int .i64 q, .slice vs vn vc, .int .i64 rto] 32 (0, 0))
  have k2 := alloc_bq (w.alloc (.cells #[.int .i64 (fc : Int), .int .i64 ad, .int .i64 q, .slice vs vn vc, .int .i64 rto] 32 (0, 0))) Z40
  have k3 := alloc_bq ((w.alloc (.cells #[.int .i64 (fc : Int), .int .i64 ad, .int .i64 q, .slice vs vn vc, .int .i64 rto] 32 (0, 0))).alloc Z40) Z40
  clear PY hsx hcc hr ho hri hm hk hP hA hbl hby hrf hln
  have t1 : ((n : Int) == 0) = false := by simp; omega
  have t2 : ((n : Int) == 2) = false := by simp; omega
  have t3 : decide ((2 : Int) < (n : Int)) = true := by simp; omega
  have n2 : 2 ≤ n := by omega
  have n4 : 2 ≤ c := by omega
  have n5 : ¬ c = 2 := by omega
  have n6 : ¬ 2 = c := by omega
  have hn9 : n ≤ 100000 := by omega
  rw [← HD.out] at HDR
  clear hmf hlq hnq hn
  go_enter Try.func26, Try.ntmps26
  go_upto_region 2 with fail
  obtain ⟨W, hW⟩ : ∃ W, W = ((w.alloc (.cells #[.int .i64 (fc : Int), .int .i64 ad, .int .i64 q, .slice vs vn vc, .int .i64 rto] 32 (0, 0))).alloc Z40).alloc Z40 := ⟨_, rfl⟩
  have bw : Below w.heap.size w W := by rw [hW]; exact (k1.trans (k2.mono k1.size)).trans (k3.mono (k1.trans (k2.mono k1.size)).size)
  have hS : W.heap[w.heap.size]? = some (.cells #[.int .i64 (fc : Int), .int .i64 ad, .int .i64 q, .slice vs vn vc, .int .i64 rto] 32 (0, 0)) := by rw [hW]; exact low_of k3 (low_of k2 (heap_alloc_new _ _))
  have hR : W.heap[w.heap.size + 1]? = some Z40 := by
    rw [hW]; refine low_of k3 ?_
    have := heap_alloc_new (w.alloc (.cells #[.int .i64 (fc : Int), .int .i64 ad, .int .i64 q, .slice vs vn vc, .int .i64 rto] 32 (0, 0))) Z40
    rwa [World.size_alloc] at this
  have hP0 : W.heap[w.heap.size + 1 + 1]? = some Z40 := by
    rw [hW]
    have := heap_alloc_new ((w.alloc (.cells #[.int .i64 (fc : Int), .int .i64 ad, .int .i64 q, .slice vs vn vc, .int .i64 rto] 32 (0, 0))).alloc Z40) Z40
    rwa [World.size_alloc, World.size_alloc] at this
  rw [← hW]
  clear hW k1 k2 k3
  obtain ⟨x0, x1, x2, x3, x4⟩ := cells5 hS
  have f0 := froz (i := 0) hP0
  have f1 := froz (i := 1) hP0
  obtain ⟨p0, p1⟩ := cells2q hP0
  have BW := Lib.hid bw
  have HS := Lib.hid hS
  have HR := Lib.hid hR
  have HP0 := Lib.hid hP0
  clear bw hS hR hP0
  go_quiet (fail)
  obtain ⟨W1, hW1⟩ : ∃ W1, W1 = W.drewN nq := ⟨_, rfl⟩
  have bw1 : Below w.heap.size w W1 := by rw [hW1]; exact below_drewN BW.out _
  have hS1 : W1.heap[w.heap.size]? = some (.cells #[.int .i64 (fc : Int), .int .i64 ad, .int .i64 q, .slice vs vn vc, .int .i64 rto] 32 (0, 0)) := by rw [hW1]; exact HS.out
  have hR1 : W1.heap[w.heap.size + 1]? = some Z40 := by rw [hW1]; exact HR.out
  have hP1 : W1.heap[w.heap.size + 1 + 1]? = some Z40 := by rw [hW1]; exact HP0.out
  rw [← hW1]
  clear hW1 x0 x1 x2 x3 x4 f0 f1 p0 p1 BW HS HR HP0
  obtain ⟨x0, x1, x2, x3, x4⟩ := cells5 hS1
  have f0 := froz (i := 0) hP1
  have f1 := froz (i := 1) hP1
  obtain ⟨p0, p1⟩ := cells2q hP1
  have BW := Lib.hid bw1
  have HS := Lib.hid hS1
  have HR := Lib.hid hR1
  have HP0 := Lib.hid hP1
  have AR2 := Lib.hid (fun W (h : Below w.heap.size w W) => bys_drop (ARG.out.row.below h) 2 (by omega))
  clear bw1 hS1 hR1 hP1
  go_wp2_with fail
  refine (RD.out _).mono ?_
  rintro e w2 ⟨rfl, e2⟩
  rw [e2]
  clear e2
  go_wp2_with fail
  have UW := unwD_any (some ⟨b, off + 2, none⟩) (n - 2) (c - 2) (D.drop 2) W1 (AR2.out _ BW.out) (by omega)
  rw [HDR.out, HU.out] at UW
  refine UW.mono ?_
  rintro e w7 ⟨a7, n7, c7, rfl, hA7, _, z7⟩
  have A7 := Lib.hid hA7
  have B7 := Lib.hid (BW.out.trans (Below.mono z7 BW.out.size))
  have HS7 := Lib.hid (low_of z7 HS.out)
  have HR7 := Lib.hid (low_of z7 HR.out)
  have HP7 := Lib.hid (low_of z7 HP0.out)
  have f0 := froz (i := 0) HP7.out
  have f1 := froz (i := 1) HP7.out
  obtain ⟨p0, p1⟩ := cells2q HP7.out
  clear UW hA7 z7 x0 x1 x2 x3 x4
  go_upto_region 10 with fail
  obtain ⟨W2, hW2⟩ : ∃ W2, W2 = w7.setCell ⟨w.heap.size + 1 + 1, 1, none⟩ (.slice a7 n7 c7) := ⟨_, rfl⟩
  have bw2 : Below w.heap.size w W2 := by rw [hW2]; exact B7.out.setCell (show w.heap.size ≤ w.heap.size + 1 + 1 by omega) _
  have hS2 : W2.heap[w.heap.size]? = some (.cells #[.int .i64 (fc : Int), .int .i64 ad, .int .i64 q, .slice vs vn vc, .int .i64 rto] 32 (0, 0)) := by
    rw [hW2]; exact (Below.heap_setCell _ _ _ _ (by simp; omega)).trans HS7.out
  have hR2 : W2.heap[w.heap.size + 1]? = some Z40 := by
    rw [hW2]; exact (Below.heap_setCell _ _ _ _ (by simp)).trans HR7.out
  have hP2 : W2.heap[w.heap.size + 1 + 1]? = some (.cells #[.int .i64 0, .slice a7 n7 c7] 40 (0, 0)) := by
    rw [hW2, World.setCell]
    simp [Array.getElem?_modify, HP7.out]
  have hU2 : ArgW W2 a7 n7 c7 V := by rw [hW2]; exact argw_p1 A7.out HP7.out _
  rw [← hW2]
  clear hW2
  have BW2 := Lib.hid bw2
  have HS2 := Lib.hid hS2
  have HR2 := Lib.hid hR2
  have HP2 := Lib.hid hP2
  have HU2 := Lib.hid hU2
  have KS : Hid (∀ w', Gd W2 w' → w'.cell? ⟨w.heap.size, 0, none⟩ = some (.int .i64 (fc : Int)) ∧ w'.cell? ⟨w.heap.size, 1, none⟩ = some (.int .i64 ad) ∧ w'.cell? ⟨w.heap.size, 2, none⟩ = some (.int .i64 q) ∧ w'.cell? ⟨w.heap.size, 3, none⟩ = some (.slice vs vn vc) ∧ w'.cell? ⟨w.heap.size, 4, none⟩ = some (.int .i64 rto) ∧ w'.cell? ⟨w.heap.size + 1 + 1, 0, none⟩ = some (.int .i64 0) ∧ w'.cell? ⟨w.heap.size + 1 + 1, 1, none⟩ = some (.slice a7 n7 c7) ∧ (convert 33 9 (.slice (some ⟨b, off, none⟩) n c)).run Try.prog w' = .ok (.string SX) w') := Lib.hid (by
    intro w' h
    obtain ⟨h0, h1, h2, h3, h4⟩ := cells5 (low_of h HS2.out)
    obtain ⟨h5, h6⟩ := cells2q (low_of h HP2.out)
    exact ⟨h0, h1, h2, h3, h4, h5, h6, HCV.out w' (BW2.out.trans (Below.mono h BW2.out.size))⟩)
  have RA2 := Lib.hid (fun (w' : World) (h : Gd W2 w') => RY.out w' a7 n7 c7 (BW2.out.trans (Below.mono h BW2.out.size)) (HU2.out.below h))
  have PA2 := Lib.hid (fun (w' : World) (h : Gd W2 w') => PY2.out w' a7 n7 c7 (BW2.out.trans (Below.mono h BW2.out.size)) (HU2.out.below h))
  have g0 : Gd W2 W2.drew := (Below.refl _ _).drew
  have h0 := KS.out _ g0
  clear bw2 hS2 hR2 hP2 hU2 f0 f1 p0 p1
  go_region_held (fun w' => w'.cell? ⟨w.heap.size, 0, none⟩ = some (.int .i64 (fc : Int)) ∧ w'.cell? ⟨w.heap.size, 1, none⟩ = some (.int .i64 ad) ∧ w'.cell? ⟨w.heap.size, 2, none⟩ = some (.int .i64 q) ∧ w'.cell? ⟨w.heap.size, 3, none⟩ = some (.slice vs vn vc) ∧ w'.cell? ⟨w.heap.size, 4, none⟩ = some (.int .i64 rto) ∧ w'.cell? ⟨w.heap.size + 1 + 1, 0, none⟩ = some (.int .i64 0) ∧ w'.cell? ⟨w.heap.size + 1 + 1, 1, none⟩ = some (.slice a7 n7 c7) ∧ (convert 33 9 (.slice (some ⟨b, off, none⟩) n c)).run Try.prog w' = .ok (.string SX) w') (first | exact h0 | exact s5 | exact s6 | go_keep) (first
    | (go_at_call 50; refine (RA2.out _ g0).mono ?_; rintro e w5 ⟨rfl, z5⟩; have q5 : Gd W2 w5 := Gd.step g0 z5; have s5 := KS.out w5 q5; clear z5)
    | (go_at_call 31; refine (PA2.out _ q5).mono ?_; rintro e w6 ⟨a6, m6, c6, rfl, cv6, z6⟩; have q6 : Gd W2 w6 := Gd.step q5 z6; have s6 := KS.out w6 q6; clear z6))
  all_goals
    have BE6 := Lib.hid (BW2.out.trans (Below.mono q6 BW2.out.size))
    have zF := low_of q6 HR2.out
    obtain ⟨d0, d1⟩ := cells2q zF
    have s0 := froz (i := 0) zF
    have s1 := froz (i := 1) zF
    have HZF := Lib.hid zF
    have HU6 := Lib.hid (HU2.out.below q6)
    clear zF q6 q5 g0
    go_wp2_with fail
    refine bodyPost_ret (v := .tuple #[.agg #[.int .i64 0, .slice a7 n7 c7], .int .i64 0]) (by simp [results, Try.results26, go_sem, d0, d1]) rfl ?_
    rw [HP.out]
    exact ⟨a7, n7, c7, by rfl, HU6.out.st2 HZF.out _ _, (BE6.out.setCell (by simp) _).setCell (by simp) _⟩
set_option maxRecDepth 100000 in
set_option maxHeartbeats 8000000 in
theorem getY_bits (r : Rq) (V : List Nat) (a : Option Addr) (n c : Nat) (w : World) (hr : r.ok w) (ho : okR r 0 V = true) (hrd : rdF r = true) (hbi : biF r = true) (hV : ∀ v ∈ V, v < 65536) (hA : ArgB w a n c (repN r 0 V)) : Calls Try.prog 26 #[rv r, .slice a n c] w (BackP w 0 V) := by
  obtain ⟨P, hP⟩ : ∃ P, P = (BackP w 0 V : Ending → World → Prop) := ⟨_, rfl⟩
  rw [← hP]
  have HP := Lib.hid hP
  have hri : rightR r = true := by unfold okR at ho; rw [Bool.and_eq_true] at ho; exact ho.1
  have hm : mayB r.q (rdF r) (biF r) 0 V = true := by unfold okR at ho; rw [Bool.and_eq_true] at ho; exact ho.2
  obtain ⟨hk, hf1, hf2, hq1, hq2⟩ := right_facts hri
  have hmf := (mayB_facts hm).2
  have RY := Lib.hid (fun W us un uc (h : Below w.heap.size w W) (hU : ArgW W us un uc V) => rightY_any r ⟨0, us, un, uc, V⟩ W (hr.below h) ⟨hU, show (Lit.int .i64 0).wf = true by decide⟩ ho)
  have PY := Lib.hid (fun W us un uc (h : Below w.heap.size w W) (hU : ArgW W us un uc V) => putY_any r ⟨0, us, un, uc, V⟩ W (hr.below h) ⟨hU, show (Lit.int .i64 0).wf = true by decide⟩ ho)
  have hby := hA.row.by'
  have hln := hA.row.ln
  have RD := Lib.hid (fun W => reads14_any r.fc W)
  have hrf := reads14_fo hk
  rw [hrf.1, hrf.2] at RD
  rw [show (fo r.fc).rd = rdF r from rfl, show (rdF r && (fo r.fc).bi) = biF r from rfl] at RD
  have hq0 : 1 ≤ r.q := by
    have hh := (has_iff _ _).1 (rt_of hri).hh
    have := hh.2.2.2.2.1
    have hk2 := hk
    have hrd2 := hrd
    unfold rdF at hrd2
    generalize fo r.fc = f at this hk2 hrd2
    unfold formOf at hk2
    repeat' split at hk2
    all_goals first | (cases hk2; done) | (injection hk2 with hk2; subst hk2; simp at this hrd2 <;> omega)
  rw [hrd, hbi] at hmf RD
  obtain ⟨hlq, hbv⟩ := hmf.2 rfl rfl
  have hrep : repN r 0 V = r.fc.toNat :: (bits V).length :: bits V := by unfold repN; rw [if_neg (by simp), if_pos hrd, if_pos hbi]
  have hdr : (repN r 0 V).drop 2 = bits V := by rw [hrep]; rfl
  have hn : n = 2 + (V.length + 7) / 8 := by rw [← hln, hrep]; simp [bits_len]; omega
  have HU := Lib.hid (unb_bits V (hbv rfl))
  have HDR := Lib.hid hdr
  have hVL : ∃ k, k = V.length := ⟨_, rfl⟩
  clear hrep hrd hbi hdr hbv
  obtain ⟨D, hD⟩ : ∃ D, D = repN r 0 V := ⟨_, rfl⟩
  simp only at PY
  rw [← hD] at PY hA hby hln
  have HD := Lib.hid hD
  obtain ⟨fc, ad, q, vs, vn, vc, U, rto⟩ := r
  simp only at hf1 hf2 hq1 hq2 hA PY hmf RD hq0 hlq HDR
  obtain ⟨fc, rfl⟩ : ∃ k : Nat, fc = (k : Int) := ⟨fc.toNat, by omega⟩
  simp only [rv, rpv, Int.toNat_natCast] at RY PY hA ⊢
  obtain ⟨SX, hsx⟩ : ∃ s, s = strN D := ⟨_, rfl⟩
  have HCV : Hid (∀ W, Below w.heap.size w W → (convert 33 9 (.slice a n c)).run Try.prog W = .ok (.string SX) W) := Lib.hid (fun W hb => by rw [hsx]; exact conv_bys (hA.row.below hb))
  have PY2 : Hid (∀ W us un uc, Below w.heap.size w W → ArgW W us un uc V → Calls Try.prog 31 #[.agg #[.int .i64 fc, .int .i64 ad, .int .i64 q, .slice vs vn vc, .int .i64 rto], .agg #[.int .i64 0, .slice us un uc]] W (fun e w5 => ∃ a6 m6 c6, e = .returned (.slice a6 m6 c6) ∧ (convert 33 9 (.slice a6 m6 c6)).run Try.prog w5 = .ok (.string SX) w5 ∧ Below W.heap.size W w5)) := Lib.hid (by
    intro W us un uc h1 h2
    refine (PY.out W us un uc h1 h2).mono ?_
    rintro e w5 ⟨v, rfl, ho, z5⟩
    obtain ⟨a6, c6, rfl, hA6, _⟩ := OwnV.argB ho hby
    exact ⟨a6, _, c6, rfl, by rw [hsx]; exact conv_bys hA6.row, z5⟩)
  have ARG := Lib.hid hA
  obtain ⟨b, off, rfl, hbl, hcc⟩ := hA.row.pos (by omega)
  have hc1 := hA.le
  have hc2 := hA.mx
  unfold maxLen at hc2
  have k1 := alloc_bq w (.cells #[.int .i64 (fc : Int), .int .i64 ad, .int .i64 q, .slice vs vn vc, .int .i64 rto] 32 (0, 0))
  have k2 := alloc_bq (w.alloc (.cells #[.int .i64 (fc : Int), .int .i64 ad, .int .i64 q, .slice vs vn vc, .int .i64 rto] 32 (0, 0))) Z40
  have k3 := alloc_bq ((w.alloc (.cells #[.int .i64 (fc : Int), .int .i64 ad, .int .i64 q, .slice vs vn vc, .int .i64 rto] 32 (0, 0))).alloc Z40) Z40
  clear PY hsx hcc hr ho hri hm hk hP hA hbl hby hrf hln
  have t1 : ((n : Int) == 0) = false := by simp; omega
  have t2 : ((n : Int) == 2) = false := by simp; omega
  have t3 : decide ((2 : Int) < (n : Int)) = true := by simp; omega
  have n2 : 2 ≤ n := by omega
  have n4 : 2 ≤ c := by omega
  have n5 : ¬ c = 2 := by omega
  have n6 : ¬ 2 = c := by omega
  have hn9 : n ≤ 100000 := by omega
  obtain ⟨q, rfl⟩ : ∃ k : Nat, q = (k : Int) := ⟨q.toNat, by omega⟩
  have hvq : V.length = q := by omega
  have t4 : decide ((q : Int) ≤ 2000) = true := by simp; omega
  rw [← HD.out] at HDR
  rw [hvq] at HU
  have HVQ := Lib.hid hvq
  clear hmf hlq hn hvq
  go_enter Try.func26, Try.ntmps26
  go_upto_region 2 with fail
  obtain ⟨W, hW⟩ : ∃ W, W = ((w.alloc (.cells #[.int .i64 (fc : Int), .int .i64 ad, .int .i64 q, .slice vs vn vc, .int .i64 rto] 32 (0, 0))).alloc Z40).alloc Z40 := ⟨_, rfl⟩
  have bw : Below w.heap.size w W := by rw [hW]; exact (k1.trans (k2.mono k1.size)).trans (k3.mono (k1.trans (k2.mono k1.size)).size)
  have hS : W.heap[w.heap.size]? = some (.cells #[.int .i64 (fc : Int), .int .i64 ad, .int .i64 q, .slice vs vn vc, .int .i64 rto] 32 (0, 0)) := by rw [hW]; exact low_of k3 (low_of k2 (heap_alloc_new _ _))
  have hR : W.heap[w.heap.size + 1]? = some Z40 := by
    rw [hW]; refine low_of k3 ?_
    have := heap_alloc_new (w.alloc (.cells #[.int .i64 (fc : Int), .int .i64 ad, .int .i64 q, .slice vs vn vc, .int .i64 rto] 32 (0, 0))) Z40
    rwa [World.size_alloc] at this
  have hP0 : W.heap[w.heap.size + 1 + 1]? = some Z40 := by
    rw [hW]
    have := heap_alloc_new ((w.alloc (.cells #[.int .i64 (fc : Int), .int .i64 ad, .int .i64 q, .slice vs vn vc, .int .i64 rto] 32 (0, 0))).alloc Z40) Z40
    rwa [World.size_alloc, World.size_alloc] at this
  rw [← hW]
  clear hW k1 k2 k3
  obtain ⟨x0, x1, x2, x3, x4⟩ := cells5 hS
  have f0 := froz (i := 0) hP0
  have f1 := froz (i := 1) hP0
  obtain ⟨p0, p1⟩ := cells2q hP0
  have BW := Lib.hid bw
  have HS := Lib.hid hS
  have HR := Lib.hid hR
  have HP0 := Lib.hid hP0
  clear bw hS hR hP0
  go_quiet (fail)
  obtain ⟨W1, hW1⟩ : ∃ W1, W1 = W.drewN nq := ⟨_, rfl⟩
  have bw1 : Below w.heap.size w W1 := by rw [hW1]; exact below_drewN BW.out _
  have hS1 : W1.heap[w.heap.size]? = some (.cells #[.int .i64 (fc : Int), .int .i64 ad, .int .i64 q, .slice vs vn vc, .int .i64 rto] 32 (0, 0)) := by rw [hW1]; exact HS.out
  have hR1 : W1.heap[w.heap.size + 1]? = some Z40 := by rw [hW1]; exact HR.out
  have hP1 : W1.heap[w.heap.size + 1 + 1]? = some Z40 := by rw [hW1]; exact HP0.out
  rw [← hW1]
  clear hW1 x0 x1 x2 x3 x4 f0 f1 p0 p1 BW HS HR HP0
  obtain ⟨x0, x1, x2, x3, x4⟩ := cells5 hS1
  have f0 := froz (i := 0) hP1
  have f1 := froz (i := 1) hP1
  obtain ⟨p0, p1⟩ := cells2q hP1
  have BW := Lib.hid bw1
  have HS := Lib.hid hS1
  have HR := Lib.hid hR1
  have HP0 := Lib.hid hP1
  have AR2 := Lib.hid (fun W (h : Below w.heap.size w W) => bys_drop (ARG.out.row.below h) 2 (by omega))
  clear bw1 hS1 hR1 hP1
  go_wp2_with fail
  refine (RD.out _).mono ?_
  rintro e w2 ⟨rfl, e2⟩
  rw [e2]
  clear e2
  go_upto_region 7 with fail
  have AB := Lib.hid (fun W' (h : Below w.heap.size w W') => (by
    have UW := unbD_any (some ⟨b, off + 2, none⟩) (n - 2) (c - 2) (D.drop 2) q W' (AR2.out _ h) (by omega) (by omega)
    rw [HDR.out, HU.out] at UW
    exact UW : Calls Try.prog 48 #[.slice (some ⟨b, off + 2, none⟩) (n - 2) (c - 2), .int .i64 (q : Int)] W' (NewW W' V)))
  have AB0 := AB.out W1.drew BW.out.drew
  have ABH := Lib.hid AB0
  clear AB0
  go_region_with (first
    | (go_at_call 48; refine ABH.out.mono ?_; rintro e w7 ⟨a7, n7, c7, rfl, hA7, _, z7⟩; have A7 := Lib.hid hA7; have B7 := Lib.hid (BW.out.trans (Below.mono (Below.trans (Below.refl _ W1).drew z7) BW.out.size)); have HS7 := Lib.hid (low_of (Below.trans (Below.refl _ W1).drew z7) HS.out); have HR7 := Lib.hid (low_of (Below.trans (Below.refl _ W1).drew z7) HR.out); have HP7 := Lib.hid (low_of (Below.trans (Below.refl _ W1).drew z7) HP0.out); have f0 := froz (i := 0) HP7.out; have f1 := froz (i := 1) HP7.out; obtain ⟨p0, p1⟩ := cells2q HP7.out; clear hA7 z7)
    | fail)
  all_goals
    try clear x0 x1 x2 x3 x4
    go_upto_region 10 with fail
    obtain ⟨W2, hW2⟩ : ∃ W2, W2 = w7.setCell ⟨w.heap.size + 1 + 1, 1, none⟩ (.slice a7 n7 c7) := ⟨_, rfl⟩
    have bw2 : Below w.heap.size w W2 := by rw [hW2]; exact B7.out.setCell (show w.heap.size ≤ w.heap.size + 1 + 1 by omega) _
    have hS2 : W2.heap[w.heap.size]? = some (.cells #[.int .i64 (fc : Int), .int .i64 ad, .int .i64 q, .slice vs vn vc, .int .i64 rto] 32 (0, 0)) := by
      rw [hW2]; exact (Below.heap_setCell _ _ _ _ (by simp; omega)).trans HS7.out
    have hR2 : W2.heap[w.heap.size + 1]? = some Z40 := by
      rw [hW2]; exact (Below.heap_setCell _ _ _ _ (by simp)).trans HR7.out
    have hP2 : W2.heap[w.heap.size + 1 + 1]? = some (.cells #[.int .i64 0, .slice a7 n7 c7] 40 (0, 0)) := by
      rw [hW2, World.setCell]
      simp [Array.getElem?_modify, HP7.out]
    have hU2 : ArgW W2 a7 n7 c7 V := by rw [hW2]; exact argw_p1 A7.out HP7.out _
    rw [← hW2]
    clear hW2
    have BW2 := Lib.hid bw2
    have HS2 := Lib.hid hS2
    have HR2 := Lib.hid hR2
    have HP2 := Lib.hid hP2
    have HU2 := Lib.hid hU2
    have KS : Hid (∀ w', Gd W2 w' → w'.cell? ⟨w.heap.size, 0, none⟩ = some (.int .i64 (fc : Int)) ∧ w'.cell? ⟨w.heap.size, 1, none⟩ = some (.int .i64 ad) ∧ w'.cell? ⟨w.heap.size, 2, none⟩ = some (.int .i64 q) ∧ w'.cell? ⟨w.heap.size, 3, none⟩ = some (.slice vs vn vc) ∧ w'.cell? ⟨w.heap.size, 4, none⟩ = some (.int .i64 rto) ∧ w'.cell? ⟨w.heap.size + 1 + 1, 0, none⟩ = some (.int .i64 0) ∧ w'.cell? ⟨w.heap.size + 1 + 1, 1, none⟩ = some (.slice a7 n7 c7) ∧ (convert 33 9 (.slice (some ⟨b, off, none⟩) n c)).run Try.prog w' = .ok (.string SX) w') := Lib.hid (by
      intro w' h
      obtain ⟨h0, h1, h2, h3, h4⟩ := cells5 (low_of h HS2.out)
      obtain ⟨h5, h6⟩ := cells2q (low_of h HP2.out)
      exact ⟨h0, h1, h2, h3, h4, h5, h6, HCV.out w' (BW2.out.trans (Below.mono h BW2.out.size))⟩)
    have RA2 := Lib.hid (fun (w' : World) (h : Gd W2 w') => RY.out w' a7 n7 c7 (BW2.out.trans (Below.mono h BW2.out.size)) (HU2.out.below h))
    have PA2 := Lib.hid (fun (w' : World) (h : Gd W2 w') => PY2.out w' a7 n7 c7 (BW2.out.trans (Below.mono h BW2.out.size)) (HU2.out.below h))
    have g0 : Gd W2 W2.drew := (Below.refl _ _).drew
    have h0 := KS.out _ g0
    clear bw2 hS2 hR2 hP2 hU2 f0 f1 p0 p1
    go_region_held (fun w' => w'.cell? ⟨w.heap.size, 0, none⟩ = some (.int .i64 (fc : Int)) ∧ w'.cell? ⟨w.heap.size, 1, none⟩ = some (.int .i64 ad) ∧ w'.cell? ⟨w.heap.size, 2, none⟩ = some (.int .i64 q) ∧ w'.cell? ⟨w.heap.size, 3, none⟩ = some (.slice vs vn vc) ∧ w'.cell? ⟨w.heap.size, 4, none⟩ = some (.int .i64 rto) ∧ w'.cell? ⟨w.heap.size + 1 + 1, 0, none⟩ = some (.int .i64 0) ∧ w'.cell? ⟨w.heap.size + 1 + 1, 1, none⟩ = some (.slice a7 n7 c7) ∧ (convert 33 9 (.slice (some ⟨b, off, none⟩) n c)).run Try.prog w' = .ok (.string SX) w') (first | exact h0 | exact s5 | exact s6 | go_keep) (first
      | (go_at_call 50; refine (RA2.out _ g0).mono ?_; rintro e w5 ⟨rfl, z5⟩; have q5 : Gd W2 w5 := Gd.step g0 z5; have s5 := KS.out w5 q5; clear z5)
      | (go_at_call 31; refine (PA2.out _ q5).mono ?_; rintro e w6 ⟨a6, m6, c6, rfl, cv6, z6⟩; have q6 : Gd W2 w6 := Gd.step q5 z6; have s6 := KS.out w6 q6; clear z6))
    all_goals
      have BE6 := Lib.hid (BW2.out.trans (Below.mono q6 BW2.out.size))
      have zF := low_of q6 HR2.out
      obtain ⟨d0, d1⟩ := cells2q zF
      have s0 := froz (i := 0) zF
      have s1 := froz (i := 1) zF
      have HZF := Lib.hid zF
      have HU6 := Lib.hid (HU2.out.below q6)
      clear zF q6 q5 g0
      go_wp2_with fail
      refine bodyPost_ret (v := .tuple #[.agg #[.int .i64 0, .slice a7 n7 c7], .int .i64 0]) (by simp [results, Try.results26, go_sem, d0, d1]) rfl ?_
      rw [HP.out]
      exact ⟨a7, n7, c7, by rfl, HU6.out.st2 HZF.out _ _, (BE6.out.setCell (by simp) _).setCell (by simp) _⟩
set_option maxRecDepth 100000 in
set_option maxHeartbeats 8000000 in
theorem getY_writes (r : Rq) (V : List Nat) (a : Option Addr) (n c : Nat) (w : World) (hr : r.ok w) (ho : okR r 0 V = true) (hrd : rdF r = false) (hV : ∀ v ∈ V, v < 65536) (hA : ArgB w a n c (repN r 0 V)) : Calls Try.prog 26 #[rv r, .slice a n c] w (BackP w 0 V) := by
  obtain ⟨P, hP⟩ : ∃ P, P = (BackP w 0 V : Ending → World → Prop) := ⟨_, rfl⟩
  rw [← hP]
  have HP := Lib.hid hP
  have hri : rightR r = true := by unfold okR at ho; rw [Bool.and_eq_true] at ho; exact ho.1
  have hm : mayB r.q (rdF r) (biF r) 0 V = true := by unfold okR at ho; rw [Bool.and_eq_true] at ho; exact ho.2
  obtain ⟨hk, hf1, hf2, hq1, hq2⟩ := right_facts hri
  have hmf := (mayB_facts hm).2
  have RY := Lib.hid (fun W us un uc (h : Below w.heap.size w W) (hU : ArgW W us un uc V) => rightY_any r ⟨0, us, un, uc, V⟩ W (hr.below h) ⟨hU, show (Lit.int .i64 0).wf = true by decide⟩ ho)
  have PY := Lib.hid (fun W us un uc (h : Below w.heap.size w W) (hU : ArgW W us un uc V) => putY_any r ⟨0, us, un, uc, V⟩ W (hr.below h) ⟨hU, show (Lit.int .i64 0).wf = true by decide⟩ ho)
  have hby := hA.row.by'
  have hln := hA.row.ln
  have RD := Lib.hid (fun W => reads14_any r.fc W)
  have hrf := reads14_fo hk
  rw [hrf.1, hrf.2] at RD
  rw [show (fo r.fc).rd = rdF r from rfl, show (rdF r && (fo r.fc).bi) = biF r from rfl] at RD
  have hbi : biF r = false := by unfold biF; unfold rdF at hrd; rw [hrd]; rfl
  have hp5 := put5 hri hrd
  rw [hrd, hbi] at hmf RD
  have hz := hmf.1 rfl rfl
  have hn : 5 ≤ n := by
    rw [← hln]; unfold repN; rw [if_neg (by simp), if_neg (by simp [hrd])]
    split
    · rw [List.length_take]; omega
    · exact hp5
  clear hbi hrd hp5
  have HZ := Lib.hid hz
  clear hz
  obtain ⟨D, hD⟩ : ∃ D, D = repN r 0 V := ⟨_, rfl⟩
  simp only at PY
  rw [← hD] at PY hA hby hln
  have HD := Lib.hid hD
  obtain ⟨fc, ad, q, vs, vn, vc, U, rto⟩ := r
  simp only at hf1 hf2 hq1 hq2 hA PY hmf RD 
  obtain ⟨fc, rfl⟩ : ∃ k : Nat, fc = (k : Int) := ⟨fc.toNat, by omega⟩
  simp only [rv, rpv, Int.toNat_natCast] at RY PY hA ⊢
  obtain ⟨SX, hsx⟩ : ∃ s, s = strN D := ⟨_, rfl⟩
  have HCV : Hid (∀ W, Below w.heap.size w W → (convert 33 9 (.slice a n c)).run Try.prog W = .ok (.string SX) W) := Lib.hid (fun W hb => by rw [hsx]; exact conv_bys (hA.row.below hb))
  have PY2 : Hid (∀ W us un uc, Below w.heap.size w W → ArgW W us un uc V → Calls Try.prog 31 #[.agg #[.int .i64 fc, .int .i64 ad, .int .i64 q, .slice vs vn vc, .int .i64 rto], .agg #[.int .i64 0, .slice us un uc]] W (fun e w5 => ∃ a6 m6 c6, e = .returned (.slice a6 m6 c6) ∧ (convert 33 9 (.slice a6 m6 c6)).run Try.prog w5 = .ok (.string SX) w5 ∧ Below W.heap.size W w5)) := Lib.hid (by
    intro W us un uc h1 h2
    refine (PY.out W us un uc h1 h2).mono ?_
    rintro e w5 ⟨v, rfl, ho, z5⟩
    obtain ⟨a6, c6, rfl, hA6, _⟩ := OwnV.argB ho hby
    exact ⟨a6, _, c6, rfl, by rw [hsx]; exact conv_bys hA6.row, z5⟩)
  have ARG := Lib.hid hA
  obtain ⟨b, off, rfl, hbl, hcc⟩ := hA.row.pos (by omega)
  have hc1 := hA.le
  have hc2 := hA.mx
  unfold maxLen at hc2
  have k1 := alloc_bq w (.cells #[.int .i64 (fc : Int), .int .i64 ad, .int .i64 q, .slice vs vn vc, .int .i64 rto] 32 (0, 0))
  have k2 := alloc_bq (w.alloc (.cells #[.int .i64 (fc : Int), .int .i64 ad, .int .i64 q, .slice vs vn vc, .int .i64 rto] 32 (0, 0))) Z40
  have k3 := alloc_bq ((w.alloc (.cells #[.int .i64 (fc : Int), .int .i64 ad, .int .i64 q, .slice vs vn vc, .int .i64 rto] 32 (0, 0))).alloc Z40) Z40
  clear PY hsx hcc hr ho hri hm hk hP hA hbl hby hrf hln
  have t1 : ((n : Int) == 0) = false := by simp; omega
  have t2 : ((n : Int) == 2) = false := by simp; omega
  have t3 : decide ((2 : Int) < (n : Int)) = true := by simp; omega
  clear hmf
  go_enter Try.func26, Try.ntmps26
  go_upto_region 2 with fail
  obtain ⟨W, hW⟩ : ∃ W, W = ((w.alloc (.cells #[.int .i64 (fc : Int), .int .i64 ad, .int .i64 q, .slice vs vn vc, .int .i64 rto] 32 (0, 0))).alloc Z40).alloc Z40 := ⟨_, rfl⟩
  have bw : Below w.heap.size w W := by rw [hW]; exact (k1.trans (k2.mono k1.size)).trans (k3.mono (k1.trans (k2.mono k1.size)).size)
  have hS : W.heap[w.heap.size]? = some (.cells #[.int .i64 (fc : Int), .int .i64 ad, .int .i64 q, .slice vs vn vc, .int .i64 rto] 32 (0, 0)) := by rw [hW]; exact low_of k3 (low_of k2 (heap_alloc_new _ _))
  have hR : W.heap[w.heap.size + 1]? = some Z40 := by
    rw [hW]; refine low_of k3 ?_
    have := heap_alloc_new (w.alloc (.cells #[.int .i64 (fc : Int), .int .i64 ad, .int .i64 q, .slice vs vn vc, .int .i64 rto] 32 (0, 0))) Z40
    rwa [World.size_alloc] at this
  have hP0 : W.heap[w.heap.size + 1 + 1]? = some Z40 := by
    rw [hW]
    have := heap_alloc_new ((w.alloc (.cells #[.int .i64 (fc : Int), .int .i64 ad, .int .i64 q, .slice vs vn vc, .int .i64 rto] 32 (0, 0))).alloc Z40) Z40
    rwa [World.size_alloc, World.size_alloc] at this
  rw [← hW]
  clear hW k1 k2 k3
  obtain ⟨x0, x1, x2, x3, x4⟩ := cells5 hS
  have f0 := froz (i := 0) hP0
  have f1 := froz (i := 1) hP0
  obtain ⟨p0, p1⟩ := cells2q hP0
  have BW := Lib.hid bw
  have HS := Lib.hid hS
  have HR := Lib.hid hR
  have HP0 := Lib.hid hP0
  clear bw hS hR hP0
  go_quiet (fail)
  obtain ⟨W1, hW1⟩ : ∃ W1, W1 = W.drewN nq := ⟨_, rfl⟩
  have bw1 : Below w.heap.size w W1 := by rw [hW1]; exact below_drewN BW.out _
  have hS1 : W1.heap[w.heap.size]? = some (.cells #[.int .i64 (fc : Int), .int .i64 ad, .int .i64 q, .slice vs vn vc, .int .i64 rto] 32 (0, 0)) := by rw [hW1]; exact HS.out
  have hR1 : W1.heap[w.heap.size + 1]? = some Z40 := by rw [hW1]; exact HR.out
  have hP1 : W1.heap[w.heap.size + 1 + 1]? = some Z40 := by rw [hW1]; exact HP0.out
  rw [← hW1]
  clear hW1 x0 x1 x2 x3 x4 f0 f1 p0 p1 BW HS HR HP0
  obtain ⟨x0, x1, x2, x3, x4⟩ := cells5 hS1
  have f0 := froz (i := 0) hP1
  have f1 := froz (i := 1) hP1
  obtain ⟨p0, p1⟩ := cells2q hP1
  have BW := Lib.hid bw1
  have HS := Lib.hid hS1
  have HR := Lib.hid hR1
  have HP0 := Lib.hid hP1
  have AR2 := Lib.hid (fun W (h : Below w.heap.size w W) => bys_drop (ARG.out.row.below h) 2 (by omega))
  clear bw1 hS1 hR1 hP1
  go_wp2_with fail
  refine (RD.out _).mono ?_
  rintro e w2 ⟨rfl, e2⟩
  rw [e2]
  clear e2
  go_upto_region 10 with fail
  obtain ⟨W2, hW2⟩ : ∃ W2, W2 = W1 := ⟨_, rfl⟩
  have bw2 : Below w.heap.size w W2 := by rw [hW2]; exact BW.out
  have hS2 : W2.heap[w.heap.size]? = some (.cells #[.int .i64 (fc : Int), .int .i64 ad, .int .i64 q, .slice vs vn vc, .int .i64 rto] 32 (0, 0)) := by rw [hW2]; exact HS.out
  have hR2 : W2.heap[w.heap.size + 1]? = some Z40 := by rw [hW2]; exact HR.out
  have hP2 : W2.heap[w.heap.size + 1 + 1]? = some (.cells #[.int .i64 0, .slice none 0 0] 40 (0, 0)) := by rw [hW2]; exact HP0.out
  have hU2 : ArgW W2 none 0 0 V := by rw [HZ.out]; exact argW_noB _
  rw [← hW2]
  clear hW2
  have BW2 := Lib.hid bw2
  have HS2 := Lib.hid hS2
  have HR2 := Lib.hid hR2
  have HP2 := Lib.hid hP2
  have HU2 := Lib.hid hU2
  have KS : Hid (∀ w', Gd W2 w' → w'.cell? ⟨w.heap.size, 0, none⟩ = some (.int .i64 (fc : Int)) ∧ w'.cell? ⟨w.heap.size, 1, none⟩ = some (.int .i64 ad) ∧ w'.cell? ⟨w.heap.size, 2, none⟩ = some (.int .i64 q) ∧ w'.cell? ⟨w.heap.size, 3, none⟩ = some (.slice vs vn vc) ∧ w'.cell? ⟨w.heap.size, 4, none⟩ = some (.int .i64 rto) ∧ w'.cell? ⟨w.heap.size + 1 + 1, 0, none⟩ = some (.int .i64 0) ∧ w'.cell? ⟨w.heap.size + 1 + 1, 1, none⟩ = some (.slice none 0 0) ∧ (convert 33 9 (.slice (some ⟨b, off, none⟩) n c)).run Try.prog w' = .ok (.string SX) w') := Lib.hid (by
    intro w' h
    obtain ⟨h0, h1, h2, h3, h4⟩ := cells5 (low_of h HS2.out)
    obtain ⟨h5, h6⟩ := cells2q (low_of h HP2.out)
    exact ⟨h0, h1, h2, h3, h4, h5, h6, HCV.out w' (BW2.out.trans (Below.mono h BW2.out.size))⟩)
  have RA2 := Lib.hid (fun (w' : World) (h : Gd W2 w') => RY.out w' none 0 0 (BW2.out.trans (Below.mono h BW2.out.size)) (HU2.out.below h))
  have PA2 := Lib.hid (fun (w' : World) (h : Gd W2 w') => PY2.out w' none 0 0 (BW2.out.trans (Below.mono h BW2.out.size)) (HU2.out.below h))
  have g0 : Gd W2 W2.drew := (Below.refl _ _).drew
  have h0 := KS.out _ g0
  clear bw2 hS2 hR2 hP2 hU2 x0 x1 x2 x3 x4 f0 f1 p0 p1
  go_region_held (fun w' => w'.cell? ⟨w.heap.size, 0, none⟩ = some (.int .i64 (fc : Int)) ∧ w'.cell? ⟨w.heap.size, 1, none⟩ = some (.int .i64 ad) ∧ w'.cell? ⟨w.heap.size, 2, none⟩ = some (.int .i64 q) ∧ w'.cell? ⟨w.heap.size, 3, none⟩ = some (.slice vs vn vc) ∧ w'.cell? ⟨w.heap.size, 4, none⟩ = some (.int .i64 rto) ∧ w'.cell? ⟨w.heap.size + 1 + 1, 0, none⟩ = some (.int .i64 0) ∧ w'.cell? ⟨w.heap.size + 1 + 1, 1, none⟩ = some (.slice none 0 0) ∧ (convert 33 9 (.slice (some ⟨b, off, none⟩) n c)).run Try.prog w' = .ok (.string SX) w') (first | exact h0 | exact s5 | exact s6 | go_keep) (first
    | (go_at_call 50; refine (RA2.out _ g0).mono ?_; rintro e w5 ⟨rfl, z5⟩; have q5 : Gd W2 w5 := Gd.step g0 z5; have s5 := KS.out w5 q5; clear z5)
    | (go_at_call 31; refine (PA2.out _ q5).mono ?_; rintro e w6 ⟨a6, m6, c6, rfl, cv6, z6⟩; have q6 : Gd W2 w6 := Gd.step q5 z6; have s6 := KS.out w6 q6; clear z6))
  all_goals
    have BE6 := Lib.hid (BW2.out.trans (Below.mono q6 BW2.out.size))
    have zF := low_of q6 HR2.out
    obtain ⟨d0, d1⟩ := cells2q zF
    have s0 := froz (i := 0) zF
    have s1 := froz (i := 1) zF
    have HZF := Lib.hid zF
    have HU6 := Lib.hid (HU2.out.below q6)
    clear zF q6 q5 g0
    go_wp2_with fail
    refine bodyPost_ret (v := .tuple #[.agg #[.int .i64 0, .slice none 0 0], .int .i64 0]) (by simp [results, Try.results26, go_sem, d0, d1]) rfl ?_
    rw [HP.out]
    exact ⟨none, 0, 0, by rfl, HU6.out.st2 HZF.out _ _, (BE6.out.setCell (by simp) _).setCell (by simp) _⟩
theorem getY_any (r : Rq) (code : Int) (V : List Nat) (a : Option Addr) (n c : Nat) (w : World) (hr : r.ok w) (ho : okR r code V = true) (hV : ∀ v ∈ V, v < 65536) (hA : ArgB w a n c (repN r code V)) : Calls Try.prog 26 #[rv r, .slice a n c] w (BackP w code V) := by
  by_cases hc : code = 0
  · subst hc
    cases hrd : rdF r with
    | false => exact getY_writes r V a n c w hr ho hrd hV hA
    | true =>
      cases hbi : biF r with
      | false => exact getY_words r V a n c w hr ho hrd hbi hV hA
      | true => exact getY_bits r V a n c w hr ho hrd hbi hV hA
  · exact getY_ex r code V a n c w hr ho hc hA
end Go.Proofs.Ytdolgpogjnfpkaa
