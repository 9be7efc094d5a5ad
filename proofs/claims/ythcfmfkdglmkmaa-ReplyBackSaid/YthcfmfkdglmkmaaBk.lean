/- ReplyBack. -/
import Derived.Test.YthcfmfkdglmkmaaRb
import Derived.Deep.RegionHeld
namespace Go.Proofs.Ythcfmfkdglmkmaa
set_option linter.unusedVariables false
set_option linter.unusedSimpArgs false
open Go.ChangeShapes Go.WideShapes Go.ChangeAt Go.RowKit

set_option maxRecDepth 100000 in
set_option maxHeartbeats 20000000 in
theorem backR_any (r : Rq) (p : Rp) (a : Option Addr) (n c : Nat) (D : List Nat) (w : World) (hr : r.ok w) (hp : p.ok w) (hb : ArgB w a n c D) : Calls Try.prog 3 #[rv r, rpv p, .slice a n c] w (BoolB w true) := by
  obtain ⟨P, hP⟩ : ∃ P, P = (BoolB w true : Ending → World → Prop) := ⟨_, rfl⟩
  rw [← hP]
  have FIN : Hid (∀ W', Below w.heap.size w W' → P (.returned (.bool true)) W') := Lib.hid (fun W' h => by rw [hP]; exact ⟨rfl, h⟩)
  have HG := Lib.hid (fun W (h : Below w.heap.size w W) => great_any r p W (hr.below h) (hp.below h))
  have HPU := Lib.hid (fun W (h : Below w.heap.size w W) => putQ_any r p W (hr.below h) (hp.below h))
  have HRI := Lib.hid (fun W (h : Below w.heap.size w W) => rightA_any r p W (hr.below h) (hp.below h))
  have HP2 := Lib.hid (fun (p : Rp) W (h : Below w.heap.size w W) (hp : p.ok W) => putQ_any r p W (hr.below h) hp)
  have HR2 := Lib.hid (fun (p : Rp) W (h : Below w.heap.size w W) (hp : p.ok W) => rightA_any r p W (hr.below h) hp)
  have HBY : Hid (∀ b ∈ (if okR r p.code p.V = true then repN r p.code p.V else []), b < 256) := Lib.hid (by
    split
    · rename_i h
      exact repN_by hr (ok_right h).1 (ok_right h).2 hp.arg.row.by' (ok_len h)
    · intro b hb; simp at hb)
  have HLN : Hid (okR r p.code p.V = true → 1 ≤ (repN r p.code p.V).length ∧ (repN r p.code p.V).length ≤ 253) := Lib.hid (fun h => repN_len h)
  have HG8 := Lib.hid (fun (h0 : okR r p.code p.V = true) (W : World) (h : Below w.heap.size w W) (a : Option Addr) (n c : Nat) (hA : ArgB W a n c (repN r p.code p.V)) (hn : n ≤ 100000) => show Calls Try.prog 11 #[rv r, .slice a n c] W (GetQ W ((p.code, p.V), if p.code ≠ 0 then 52 else 0)) by
    have := getQ_any r a n c _ W (hr.below h) hA hn
    rw [getF_put h0] at this
    exact this)
  have HSM := Lib.hid (fun (W : World) (h : Below w.heap.size w W) (a : Option Addr) (n c : Nat) (hA : ArgW W a n c p.V) => show Calls Try.prog 12 #[.agg #[.int .i64 p.code, .slice a n c], rpv p] W (BoolB W true) by
    have := sameR_any ⟨p.code, a, n, c, p.V⟩ p W hA (hp.arg.below h)
    rw [show sameB (⟨p.code, a, n, c, p.V⟩ : Rp).code p.code (⟨p.code, a, n, c, p.V⟩ : Rp).V p.V = true by simp [sameB]] at this
    exact this)
  have HG11 := Lib.hid (fun (W : World) (h : Below w.heap.size w W) (hn : n ≤ 3000) => getQ_any r a n c D W (hr.below h) (hb.below h) (by omega))
  have HCS := getF_cases r D
  have HCW := Lib.hid (fun gc (GV : List Nat) (h : getF r D = ((gc, GV), if gc ≠ 0 then 52 else 0)) => show Hid ((Lit.int .i64 gc).wf = true) from Lib.hid (by
    have hne : ¬ getF r D = ((0, []), 51) := by
      intro e
      rw [h] at e
      have := congrArg Prod.snd e
      simp only at this
      split at this <;> omega
    unfold getF at h hne
    by_cases hh : okR r (getG r D).1 (getG r D).2 = true ∧ repN r (getG r D).1 (getG r D).2 = D
    · rw [if_pos hh] at h
      have e1 := congrArg Prod.fst h
      simp only at e1
      have := getN_code (fc := r.fc.toNat) (q := r.q.toNat) (rd := rdF r) (bi := biF r) hb.row.by'
      rw [show getN r.fc.toNat r.q.toNat (rdF r) (biF r) D = getG r D from rfl, e1] at this
      exact wf_i64 (by omega) (by omega)
    · rw [if_neg hh] at hne
      exact absurd rfl hne))
  have HBB := Lib.hid hb
  have hln := hb.row.ln
  generalize getF r D = gf at HG11 HCS HCW
  have HCS := Lib.hid HCS
  obtain ⟨RL, hRL⟩ : ∃ L, L = repN r p.code p.V := ⟨_, rfl⟩
  rw [← hRL] at HPU HBY HLN HG8
  clear hRL hP hr hp hb hln
  obtain ⟨ok, hok⟩ : ∃ b, b = okR r p.code p.V := ⟨_, rfl⟩
  rw [← hok] at HPU HRI HBY HLN HG8
  clear hok
  obtain ⟨gb, hgb⟩ : ∃ b, b = greatB r.V p.V := ⟨_, rfl⟩
  rw [← hgb] at HG
  clear hgb
  obtain ⟨fc, ad, q, vs, vn, vc, V, rto⟩ := r
  obtain ⟨code, us, un, uc, U⟩ := p
  simp only [rv, rpv] at HG HPU HRI HP2 HR2 HG8 HSM HG11 ⊢
  obtain ⟨W, hW⟩ : ∃ W, W = (w.alloc (.cells #[.int .i64 fc, .int .i64 ad, .int .i64 q, .slice vs vn vc, .int .i64 rto] 24 (0, 0))).alloc (.cells #[.int .i64 code, .slice us un uc] 26 (0, 0)) := ⟨_, rfl⟩
  have k1 := alloc_bq w (.cells #[.int .i64 fc, .int .i64 ad, .int .i64 q, .slice vs vn vc, .int .i64 rto] 24 (0, 0))
  have k2 := alloc_bq (w.alloc (.cells #[.int .i64 fc, .int .i64 ad, .int .i64 q, .slice vs vn vc, .int .i64 rto] 24 (0, 0))) (.cells #[.int .i64 code, .slice us un uc] 26 (0, 0))
  have bw := k1.trans (k2.mono k1.size)
  have hx := low_of k2 (heap_alloc_new w (.cells #[.int .i64 fc, .int .i64 ad, .int .i64 q, .slice vs vn vc, .int .i64 rto] 24 (0, 0)))
  have hy := heap_alloc_new (w.alloc (.cells #[.int .i64 fc, .int .i64 ad, .int .i64 q, .slice vs vn vc, .int .i64 rto] 24 (0, 0))) (.cells #[.int .i64 code, .slice us un uc] 26 (0, 0))
  rw [World.size_alloc] at hy
  rw [← hW] at bw hx hy
  have HX := Lib.hid hx
  have HY := Lib.hid hy
  have BW := Lib.hid bw
  have HW := Lib.hid hW
  have HD := head_any W
  clear k1 k2 bw hx hy hW
  go_enter Try.func3, Try.ntmps3
  go_upto_region 1 with fail
  rw [← HW.out]
  go_wp2_with fail
  refine HD.mono ?_
  rintro e w1 ⟨rfl, z1⟩
  have B1 := Lib.hid (BW.out.trans (Below.mono z1 BW.out.size))
  have X1 := Lib.hid (low_of z1 HX.out)
  have Y1 := Lib.hid (low_of z1 HY.out)
  have G1 := HG.out w1 B1.out
  obtain ⟨c0, c1, c2, c3, c4⟩ := cells5 X1.out
  obtain ⟨y0, y1⟩ := cells2q Y1.out
  clear z1 HD
  go_wp2_with fail
  refine G1.mono ?_
  rintro e w2 ⟨rfl, z2⟩
  have B2 := Lib.hid (B1.out.trans (Below.mono z2 B1.out.size))
  have X2 := Lib.hid (low_of z2 X1.out)
  have Y2 := Lib.hid (low_of z2 Y1.out)
  clear z2 G1 c0 c1 c2 c3 c4 y0 y1
  cases gb with
  | true =>
    go_wp2_with fail
    exact FIN.out _ B2.out
  | false =>
  by_cases hn : 3000 < n
  · have t1 : (3000 : Int) < (n : Int) := by omega
    go_wp2_with fail
    exact FIN.out _ B2.out
  · have t1 : ¬ (3000 : Int) < (n : Int) := by omega
    have HG11 := Lib.hid (fun W h => HG11.out W h (by omega))
    have P2 := HPU.out w2 B2.out
    obtain ⟨c0, c1, c2, c3, c4⟩ := cells5 X2.out
    obtain ⟨y0, y1⟩ := cells2q Y2.out
    go_wp2_with fail
    refine P2.mono ?_
    rintro e w3 ⟨v3, rfl, ho, z3⟩
    have B3 := Lib.hid (B2.out.trans (Below.mono z3 B2.out.size))
    have X3 := Lib.hid (low_of z3 X2.out)
    have Y3 := Lib.hid (low_of z3 Y2.out)
    obtain ⟨a3, d3, hv3, ab3, _⟩ := OwnV.argB ho HBY.out
    subst hv3
    have A3 := Lib.hid ab3
    clear z3 P2 c0 c1 c2 c3 c4 y0 y1 ho ab3 t1
    obtain ⟨c0, c1, c2, c3, c4⟩ := cells5 X3.out
    obtain ⟨y0, y1⟩ := cells2q Y3.out
    have R3 := HRI.out w3 B3.out
    cases ok with
    | false =>
      simp only [Bool.false_eq_true, if_false, List.length_nil] at A3 ⊢
      go_wp2_with fail
      refine R3.mono ?_
      rintro e w4 ⟨rfl, z4⟩
      have B4 := Lib.hid (B3.out.trans (Below.mono z4 B3.out.size))
      have X4 := Lib.hid (low_of z4 X3.out)
      clear z4 R3 c0 c1 c2 c3 c4 y0 y1
      have G11 := HG11.out w4 B4.out
      obtain ⟨c0, c1, c2, c3, c4⟩ := cells5 X4.out
      go_wp2_with fail
      refine G11.mono ?_
      rintro e wA ⟨ga, gn, gd, rfl, gA, zA⟩
      have ZA := Lib.hid ((B4.out).trans (zA.mono (B4.out).size))
      have XA := Lib.hid (low_of zA X4.out)
      clear G11 zA c0 c1 c2 c3 c4
      rcases HCS.out with hE | ⟨gc, GV, h1, h2, h3⟩
      · subst hE
        simp only at gA ⊢
        have al := alloc_bq wA (.cells #[.int .i64 0, .slice ga gn gd] 26 (0, 0))
        have SM := sameR_any ⟨0, ga, gn, gd, []⟩ ⟨0, none, 0, 0, []⟩ (wA.alloc (.cells #[.int .i64 0, .slice ga gn gd] 26 (0, 0))) (gA.below al) (argW_none _)
        rw [show sameB (⟨0, ga, gn, gd, []⟩ : Rp).code (⟨0, none, 0, 0, []⟩ : Rp).code (⟨0, ga, gn, gd, []⟩ : Rp).V (⟨0, none, 0, 0, []⟩ : Rp).V = true from rfl] at SM
        simp only [rpv] at SM
        have ZW := Lib.hid (ZA.out.trans (al.mono ZA.out.size))
        obtain ⟨o0, o1⟩ := cells2q (heap_alloc_new wA (.cells #[.int .i64 0, .slice ga gn gd] 26 (0, 0)))
        clear al gA
        go_wp2_with fail
        refine SM.mono ?_
        rintro e wC ⟨rfl, zC⟩
        have ZC := Lib.hid (ZW.out.trans (Below.mono zC ZW.out.size))
        clear zC o0 o1
        go_wp2_with fail
        exact FIN.out _ ZC.out
      · have HK1 := Lib.hid h1
        have HK2 := Lib.hid h2
        have HWF := HCW.out gc GV h3
        clear h1 h2
        by_cases hz : gc = 0
        · subst hz
          rw [if_neg (by simp)] at h3
          subst h3
          simp only at gA ⊢
          have oA := Lib.hid (heap_alloc_new wA (.cells #[.int .i64 0, .slice ga gn gd] 26 (0, 0)))
          obtain ⟨g, hg⟩ : ∃ g, g = wA.heap.size := ⟨_, rfl⟩
          obtain ⟨W, hW⟩ : ∃ W, W = wA.alloc (.cells #[.int .i64 0, .slice ga gn gd] 26 (0, 0)) := ⟨_, rfl⟩
          have alA := alloc_bq wA (.cells #[.int .i64 0, .slice ga gn gd] 26 (0, 0))
          rw [← hW] at alA
          have ZW := Lib.hid (ZA.out.trans (alA.mono ZA.out.size))
          have XW := Lib.hid (low_of alA XA.out)
          have GAW := Lib.hid (gA.below alA)
          have oW : Hid (W.heap[g]? = some (.cells #[.int .i64 0, .slice ga gn gd] 26 (0, 0))) := Lib.hid (by rw [hg, hW]; exact oA.out)
          obtain ⟨S0, hS0⟩ : ∃ g, g = w.heap.size := ⟨_, rfl⟩
          have XW2 : Hid (W.heap[S0]? = some (.cells #[.int .i64 fc, .int .i64 ad, .int .i64 q, .slice vs vn vc, .int .i64 rto] 24 (0, 0))) := Lib.hid (by rw [hS0]; exact XW.out)
          obtain ⟨SX, hsx⟩ : ∃ s, s = strN D := ⟨_, rfl⟩
          have KS : Hid (∀ w', Gd W w' → w'.cell? ⟨S0, 0, none⟩ = some (.int .i64 fc) ∧ w'.cell? ⟨S0, 1, none⟩ = some (.int .i64 ad) ∧ w'.cell? ⟨S0, 2, none⟩ = some (.int .i64 q) ∧ w'.cell? ⟨S0, 3, none⟩ = some (.slice vs vn vc) ∧ w'.cell? ⟨S0, 4, none⟩ = some (.int .i64 rto) ∧ w'.cell? ⟨g, 0, none⟩ = some (.int .i64 0) ∧ w'.cell? ⟨g, 1, none⟩ = some (.slice ga gn gd) ∧ (convert 27 9 (.slice a n c)).run Try.prog w' = .ok (.string SX) w') := Lib.hid (by
            intro w' h
            obtain ⟨h0, h1, h2, h3, h4⟩ := cells5 (low_of h XW2.out)
            obtain ⟨h5, h6⟩ := cells2q (low_of h oW.out)
            rw [hsx]
            exact ⟨h0, h1, h2, h3, h4, h5, h6, conv_bys (HBB.out.row.below (ZW.out.trans (Below.mono h ZW.out.size)))⟩)
          have RA2 : Hid (∀ w', Gd W w' → Calls Try.prog 10 #[.agg #[.int .i64 fc, .int .i64 ad, .int .i64 q, .slice vs vn vc, .int .i64 rto], .agg #[.int .i64 0, .slice ga gn gd]] w' (fun e w5 => e = .returned (.bool true) ∧ Below w'.heap.size w' w5)) := Lib.hid (by
            intro w' h
            have := HR2.out ⟨0, ga, gn, gd, GV⟩ w' (ZW.out.trans (Below.mono h ZW.out.size)) ⟨GAW.out.below h, HWF.out⟩
            rw [HK1.out] at this
            exact this)
          have PA2 : Hid (∀ w', Gd W w' → Calls Try.prog 9 #[.agg #[.int .i64 fc, .int .i64 ad, .int .i64 q, .slice vs vn vc, .int .i64 rto], .agg #[.int .i64 0, .slice ga gn gd]] w' (fun e w5 => ∃ a c, e = .returned (.slice a n c) ∧ (convert 27 9 (.slice a n c)).run Try.prog w5 = .ok (.string SX) w5 ∧ Below w'.heap.size w' w5)) := Lib.hid (by
            intro w' h
            refine (HP2.out ⟨0, ga, gn, gd, GV⟩ w' (ZW.out.trans (Below.mono h ZW.out.size)) ⟨GAW.out.below h, HWF.out⟩).mono ?_
            rintro e w5 ⟨v, rfl, ho, z5⟩
            rw [HK1.out, if_pos rfl, HK2.out] at ho
            obtain ⟨a, c, rfl, hA, _⟩ := OwnV.argB ho HBB.out.row.by'
            rw [HBB.out.row.ln] at hA
            refine ⟨a, c, by rw [HBB.out.row.ln], ?_, z5⟩
            rw [hsx]
            exact conv_bys hA.row)
          have g0 : Gd W W.drew := (Below.refl _ _).drew
          have h0 := KS.out _ g0
          have HWW := Lib.hid hW
          have HG := Lib.hid hg
          have HS := Lib.hid hS0
          clear hW hg hsx alA gA hS0

          go_upto_region 14 with fail
          rw [← HWW.out, ← HG.out]
          rw [← HS.out]
          go_region_held (fun w' => w'.cell? ⟨S0, 0, none⟩ = some (.int .i64 fc) ∧ w'.cell? ⟨S0, 1, none⟩ = some (.int .i64 ad) ∧ w'.cell? ⟨S0, 2, none⟩ = some (.int .i64 q) ∧ w'.cell? ⟨S0, 3, none⟩ = some (.slice vs vn vc) ∧ w'.cell? ⟨S0, 4, none⟩ = some (.int .i64 rto) ∧ w'.cell? ⟨g, 0, none⟩ = some (.int .i64 0) ∧ w'.cell? ⟨g, 1, none⟩ = some (.slice ga gn gd) ∧ (convert 27 9 (.slice a n c)).run Try.prog w' = .ok (.string SX) w') (first | exact h0 | exact s5 | exact s6 | go_keep) (first
            | (go_at_call 10; refine (RA2.out _ g0).mono ?_; rintro e w5 ⟨rfl, z5⟩; have q5 : Gd W w5 := Gd.step g0 z5; have s5 := KS.out w5 q5; clear z5)
            | (go_at_call 9; refine (PA2.out _ q5).mono ?_; rintro e w6 ⟨a6, c6, rfl, cv6, z6⟩; have q6 : Gd W w6 := Gd.step q5 z6; have s6 := KS.out w6 q6; clear z6))
          all_goals
            go_wp2_with fail
            exact FIN.out _ (ZW.out.trans (Below.mono q6 ZW.out.size))
        · rw [if_pos hz] at h3
          subst h3
          simp only at gA ⊢
          have tz : (gc != 0) = true := by simp [hz]
          clear hz
          have oA := Lib.hid (heap_alloc_new wA (.cells #[.int .i64 gc, .slice ga gn gd] 26 (0, 0)))
          obtain ⟨g, hg⟩ : ∃ g, g = wA.heap.size := ⟨_, rfl⟩
          obtain ⟨W, hW⟩ : ∃ W, W = wA.alloc (.cells #[.int .i64 gc, .slice ga gn gd] 26 (0, 0)) := ⟨_, rfl⟩
          have alA := alloc_bq wA (.cells #[.int .i64 gc, .slice ga gn gd] 26 (0, 0))
          rw [← hW] at alA
          have ZW := Lib.hid (ZA.out.trans (alA.mono ZA.out.size))
          have XW := Lib.hid (low_of alA XA.out)
          have GAW := Lib.hid (gA.below alA)
          have oW : Hid (W.heap[g]? = some (.cells #[.int .i64 gc, .slice ga gn gd] 26 (0, 0))) := Lib.hid (by rw [hg, hW]; exact oA.out)
          obtain ⟨S0, hS0⟩ : ∃ g, g = w.heap.size := ⟨_, rfl⟩
          have XW2 : Hid (W.heap[S0]? = some (.cells #[.int .i64 fc, .int .i64 ad, .int .i64 q, .slice vs vn vc, .int .i64 rto] 24 (0, 0))) := Lib.hid (by rw [hS0]; exact XW.out)
          obtain ⟨SX, hsx⟩ : ∃ s, s = strN D := ⟨_, rfl⟩
          have KS : Hid (∀ w', Gd W w' → w'.cell? ⟨S0, 0, none⟩ = some (.int .i64 fc) ∧ w'.cell? ⟨S0, 1, none⟩ = some (.int .i64 ad) ∧ w'.cell? ⟨S0, 2, none⟩ = some (.int .i64 q) ∧ w'.cell? ⟨S0, 3, none⟩ = some (.slice vs vn vc) ∧ w'.cell? ⟨S0, 4, none⟩ = some (.int .i64 rto) ∧ w'.cell? ⟨g, 0, none⟩ = some (.int .i64 gc) ∧ w'.cell? ⟨g, 1, none⟩ = some (.slice ga gn gd) ∧ (convert 27 9 (.slice a n c)).run Try.prog w' = .ok (.string SX) w') := Lib.hid (by
            intro w' h
            obtain ⟨h0, h1, h2, h3, h4⟩ := cells5 (low_of h XW2.out)
            obtain ⟨h5, h6⟩ := cells2q (low_of h oW.out)
            rw [hsx]
            exact ⟨h0, h1, h2, h3, h4, h5, h6, conv_bys (HBB.out.row.below (ZW.out.trans (Below.mono h ZW.out.size)))⟩)
          have RA2 : Hid (∀ w', Gd W w' → Calls Try.prog 10 #[.agg #[.int .i64 fc, .int .i64 ad, .int .i64 q, .slice vs vn vc, .int .i64 rto], .agg #[.int .i64 gc, .slice ga gn gd]] w' (fun e w5 => e = .returned (.bool true) ∧ Below w'.heap.size w' w5)) := Lib.hid (by
            intro w' h
            have := HR2.out ⟨gc, ga, gn, gd, GV⟩ w' (ZW.out.trans (Below.mono h ZW.out.size)) ⟨GAW.out.below h, HWF.out⟩
            rw [HK1.out] at this
            exact this)
          have PA2 : Hid (∀ w', Gd W w' → Calls Try.prog 9 #[.agg #[.int .i64 fc, .int .i64 ad, .int .i64 q, .slice vs vn vc, .int .i64 rto], .agg #[.int .i64 gc, .slice ga gn gd]] w' (fun e w5 => ∃ a c, e = .returned (.slice a n c) ∧ (convert 27 9 (.slice a n c)).run Try.prog w5 = .ok (.string SX) w5 ∧ Below w'.heap.size w' w5)) := Lib.hid (by
            intro w' h
            refine (HP2.out ⟨gc, ga, gn, gd, GV⟩ w' (ZW.out.trans (Below.mono h ZW.out.size)) ⟨GAW.out.below h, HWF.out⟩).mono ?_
            rintro e w5 ⟨v, rfl, ho, z5⟩
            rw [HK1.out, if_pos rfl, HK2.out] at ho
            obtain ⟨a, c, rfl, hA, _⟩ := OwnV.argB ho HBB.out.row.by'
            rw [HBB.out.row.ln] at hA
            refine ⟨a, c, by rw [HBB.out.row.ln], ?_, z5⟩
            rw [hsx]
            exact conv_bys hA.row)
          have g0 : Gd W W.drew := (Below.refl _ _).drew
          have h0 := KS.out _ g0
          have HWW := Lib.hid hW
          have HG := Lib.hid hg
          have HS := Lib.hid hS0
          clear hW hg hsx alA gA hS0

          go_upto_region 14 with fail
          rw [← HWW.out, ← HG.out]
          rw [← HS.out]
          go_region_held (fun w' => w'.cell? ⟨S0, 0, none⟩ = some (.int .i64 fc) ∧ w'.cell? ⟨S0, 1, none⟩ = some (.int .i64 ad) ∧ w'.cell? ⟨S0, 2, none⟩ = some (.int .i64 q) ∧ w'.cell? ⟨S0, 3, none⟩ = some (.slice vs vn vc) ∧ w'.cell? ⟨S0, 4, none⟩ = some (.int .i64 rto) ∧ w'.cell? ⟨g, 0, none⟩ = some (.int .i64 gc) ∧ w'.cell? ⟨g, 1, none⟩ = some (.slice ga gn gd) ∧ (convert 27 9 (.slice a n c)).run Try.prog w' = .ok (.string SX) w') (first | exact h0 | exact s5 | exact s6 | go_keep) (first
            | (go_at_call 10; refine (RA2.out _ g0).mono ?_; rintro e w5 ⟨rfl, z5⟩; have q5 : Gd W w5 := Gd.step g0 z5; have s5 := KS.out w5 q5; clear z5)
            | (go_at_call 9; refine (PA2.out _ q5).mono ?_; rintro e w6 ⟨a6, c6, rfl, cv6, z6⟩; have q6 : Gd W w6 := Gd.step q5 z6; have s6 := KS.out w6 q6; clear z6))
          all_goals
            go_wp2_with fail
            exact FIN.out _ (ZW.out.trans (Below.mono q6 ZW.out.size))
    | true =>
      obtain ⟨hl1, hl2⟩ := HLN.out (by trivial)
      simp only [if_true] at A3 ⊢
      have G8 := Lib.hid (HG8.out (by trivial))
      generalize hm : RL.length = m at A3 hl1 hl2 ⊢
      have HM := Lib.hid hm
      clear hm
      have d0 : (0 : Int) < (m : Int) := by omega
      have d1 : ¬ (253 : Int) < (m : Int) := by omega
      go_wp2_with fail
      refine R3.mono ?_
      rintro e w4 ⟨rfl, z4⟩
      have B4 := Lib.hid (B3.out.trans (Below.mono z4 B3.out.size))
      have X4 := Lib.hid (low_of z4 X3.out)
      have Y4 := Lib.hid (low_of z4 Y3.out)
      have G8w := G8.out w4 B4.out a3 m d3 (A3.out.below z4) (by omega)
      clear z4 R3 c0 c1 c2 c3 c4 y0 y1
      obtain ⟨c0, c1, c2, c3, c4⟩ := cells5 X4.out
      go_wp2_with fail
      refine G8w.mono ?_
      rintro e w5 ⟨xa, xn, xd, rfl, xA, z5⟩
      simp only at xA ⊢
      have al := alloc_bq w5 (.cells #[.int .i64 code, .slice xa xn xd] 26 (0, 0))
      have B5 := Lib.hid (B4.out.trans (Below.mono z5 B4.out.size))
      have B6 := Lib.hid (B5.out.trans (al.mono B5.out.size))
      have X6 := Lib.hid (low_of al (low_of z5 X4.out))
      have Y6 := Lib.hid (low_of al (low_of z5 Y4.out))
      have SM := HSM.out _ B6.out xa xn xd (xA.below al)
      obtain ⟨o0, o1⟩ := cells2q (heap_alloc_new w5 (.cells #[.int .i64 code, .slice xa xn xd] 26 (0, 0)))
      obtain ⟨y0, y1⟩ := cells2q Y6.out
      clear al z5 xA G8w c0 c1 c2 c3 c4 d0 d1
      by_cases hc : code = 0
      · subst hc
        rw [if_neg (by simp)]
        go_wp2_with fail
        refine SM.mono ?_
        rintro e w7 ⟨rfl, z7⟩
        have B7 := Lib.hid (B6.out.trans (Below.mono z7 B6.out.size))
        have X7 := Lib.hid (low_of z7 X6.out)
        have Y7 := Lib.hid (low_of z7 Y6.out)
        clear z7 SM o0 o1 y0 y1
        obtain ⟨y0, y1⟩ := cells2q Y7.out
        have G11 := HG11.out w7 B7.out
        obtain ⟨c0, c1, c2, c3, c4⟩ := cells5 X7.out
        go_wp2_with fail
        refine G11.mono ?_
        rintro e wA ⟨ga, gn, gd, rfl, gA, zA⟩
        have ZA := Lib.hid ((B7.out).trans (zA.mono (B7.out).size))
        have XA := Lib.hid (low_of zA X7.out)
        clear G11 zA c0 c1 c2 c3 c4
        rcases HCS.out with hE | ⟨gc, GV, h1, h2, h3⟩
        · subst hE
          simp only at gA ⊢
          have al := alloc_bq wA (.cells #[.int .i64 0, .slice ga gn gd] 26 (0, 0))
          have SM := sameR_any ⟨0, ga, gn, gd, []⟩ ⟨0, none, 0, 0, []⟩ (wA.alloc (.cells #[.int .i64 0, .slice ga gn gd] 26 (0, 0))) (gA.below al) (argW_none _)
          rw [show sameB (⟨0, ga, gn, gd, []⟩ : Rp).code (⟨0, none, 0, 0, []⟩ : Rp).code (⟨0, ga, gn, gd, []⟩ : Rp).V (⟨0, none, 0, 0, []⟩ : Rp).V = true from rfl] at SM
          simp only [rpv] at SM
          have ZW := Lib.hid (ZA.out.trans (al.mono ZA.out.size))
          obtain ⟨o0, o1⟩ := cells2q (heap_alloc_new wA (.cells #[.int .i64 0, .slice ga gn gd] 26 (0, 0)))
          clear al gA
          go_wp2_with fail
          refine SM.mono ?_
          rintro e wC ⟨rfl, zC⟩
          have ZC := Lib.hid (ZW.out.trans (Below.mono zC ZW.out.size))
          clear zC o0 o1
          go_wp2_with fail
          exact FIN.out _ ZC.out
        · have HK1 := Lib.hid h1
          have HK2 := Lib.hid h2
          have HWF := HCW.out gc GV h3
          clear h1 h2
          by_cases hz : gc = 0
          · subst hz
            rw [if_neg (by simp)] at h3
            subst h3
            simp only at gA ⊢
            have oA := Lib.hid (heap_alloc_new wA (.cells #[.int .i64 0, .slice ga gn gd] 26 (0, 0)))
            obtain ⟨g, hg⟩ : ∃ g, g = wA.heap.size := ⟨_, rfl⟩
            obtain ⟨W, hW⟩ : ∃ W, W = wA.alloc (.cells #[.int .i64 0, .slice ga gn gd] 26 (0, 0)) := ⟨_, rfl⟩
            have alA := alloc_bq wA (.cells #[.int .i64 0, .slice ga gn gd] 26 (0, 0))
            rw [← hW] at alA
            have ZW := Lib.hid (ZA.out.trans (alA.mono ZA.out.size))
            have XW := Lib.hid (low_of alA XA.out)
            have GAW := Lib.hid (gA.below alA)
            have oW : Hid (W.heap[g]? = some (.cells #[.int .i64 0, .slice ga gn gd] 26 (0, 0))) := Lib.hid (by rw [hg, hW]; exact oA.out)
            obtain ⟨S0, hS0⟩ : ∃ g, g = w.heap.size := ⟨_, rfl⟩
            have XW2 : Hid (W.heap[S0]? = some (.cells #[.int .i64 fc, .int .i64 ad, .int .i64 q, .slice vs vn vc, .int .i64 rto] 24 (0, 0))) := Lib.hid (by rw [hS0]; exact XW.out)
            obtain ⟨SX, hsx⟩ : ∃ s, s = strN D := ⟨_, rfl⟩
            have KS : Hid (∀ w', Gd W w' → w'.cell? ⟨S0, 0, none⟩ = some (.int .i64 fc) ∧ w'.cell? ⟨S0, 1, none⟩ = some (.int .i64 ad) ∧ w'.cell? ⟨S0, 2, none⟩ = some (.int .i64 q) ∧ w'.cell? ⟨S0, 3, none⟩ = some (.slice vs vn vc) ∧ w'.cell? ⟨S0, 4, none⟩ = some (.int .i64 rto) ∧ w'.cell? ⟨g, 0, none⟩ = some (.int .i64 0) ∧ w'.cell? ⟨g, 1, none⟩ = some (.slice ga gn gd) ∧ (convert 27 9 (.slice a n c)).run Try.prog w' = .ok (.string SX) w') := Lib.hid (by
              intro w' h
              obtain ⟨h0, h1, h2, h3, h4⟩ := cells5 (low_of h XW2.out)
              obtain ⟨h5, h6⟩ := cells2q (low_of h oW.out)
              rw [hsx]
              exact ⟨h0, h1, h2, h3, h4, h5, h6, conv_bys (HBB.out.row.below (ZW.out.trans (Below.mono h ZW.out.size)))⟩)
            have RA2 : Hid (∀ w', Gd W w' → Calls Try.prog 10 #[.agg #[.int .i64 fc, .int .i64 ad, .int .i64 q, .slice vs vn vc, .int .i64 rto], .agg #[.int .i64 0, .slice ga gn gd]] w' (fun e w5 => e = .returned (.bool true) ∧ Below w'.heap.size w' w5)) := Lib.hid (by
              intro w' h
              have := HR2.out ⟨0, ga, gn, gd, GV⟩ w' (ZW.out.trans (Below.mono h ZW.out.size)) ⟨GAW.out.below h, HWF.out⟩
              rw [HK1.out] at this
              exact this)
            have PA2 : Hid (∀ w', Gd W w' → Calls Try.prog 9 #[.agg #[.int .i64 fc, .int .i64 ad, .int .i64 q, .slice vs vn vc, .int .i64 rto], .agg #[.int .i64 0, .slice ga gn gd]] w' (fun e w5 => ∃ a c, e = .returned (.slice a n c) ∧ (convert 27 9 (.slice a n c)).run Try.prog w5 = .ok (.string SX) w5 ∧ Below w'.heap.size w' w5)) := Lib.hid (by
              intro w' h
              refine (HP2.out ⟨0, ga, gn, gd, GV⟩ w' (ZW.out.trans (Below.mono h ZW.out.size)) ⟨GAW.out.below h, HWF.out⟩).mono ?_
              rintro e w5 ⟨v, rfl, ho, z5⟩
              rw [HK1.out, if_pos rfl, HK2.out] at ho
              obtain ⟨a, c, rfl, hA, _⟩ := OwnV.argB ho HBB.out.row.by'
              rw [HBB.out.row.ln] at hA
              refine ⟨a, c, by rw [HBB.out.row.ln], ?_, z5⟩
              rw [hsx]
              exact conv_bys hA.row)
            have g0 : Gd W W.drew := (Below.refl _ _).drew
            have h0 := KS.out _ g0
            have HWW := Lib.hid hW
            have HG := Lib.hid hg
            have HS := Lib.hid hS0
            clear hW hg hsx alA gA hS0

            go_upto_region 14 with fail
            rw [← HWW.out, ← HG.out]
            rw [← HS.out]
            go_region_held (fun w' => w'.cell? ⟨S0, 0, none⟩ = some (.int .i64 fc) ∧ w'.cell? ⟨S0, 1, none⟩ = some (.int .i64 ad) ∧ w'.cell? ⟨S0, 2, none⟩ = some (.int .i64 q) ∧ w'.cell? ⟨S0, 3, none⟩ = some (.slice vs vn vc) ∧ w'.cell? ⟨S0, 4, none⟩ = some (.int .i64 rto) ∧ w'.cell? ⟨g, 0, none⟩ = some (.int .i64 0) ∧ w'.cell? ⟨g, 1, none⟩ = some (.slice ga gn gd) ∧ (convert 27 9 (.slice a n c)).run Try.prog w' = .ok (.string SX) w') (first | exact h0 | exact s5 | exact s6 | go_keep) (first
              | (go_at_call 10; refine (RA2.out _ g0).mono ?_; rintro e w5 ⟨rfl, z5⟩; have q5 : Gd W w5 := Gd.step g0 z5; have s5 := KS.out w5 q5; clear z5)
              | (go_at_call 9; refine (PA2.out _ q5).mono ?_; rintro e w6 ⟨a6, c6, rfl, cv6, z6⟩; have q6 : Gd W w6 := Gd.step q5 z6; have s6 := KS.out w6 q6; clear z6))
            all_goals
              go_wp2_with fail
              exact FIN.out _ (ZW.out.trans (Below.mono q6 ZW.out.size))
          · rw [if_pos hz] at h3
            subst h3
            simp only at gA ⊢
            have tz : (gc != 0) = true := by simp [hz]
            clear hz
            have oA := Lib.hid (heap_alloc_new wA (.cells #[.int .i64 gc, .slice ga gn gd] 26 (0, 0)))
            obtain ⟨g, hg⟩ : ∃ g, g = wA.heap.size := ⟨_, rfl⟩
            obtain ⟨W, hW⟩ : ∃ W, W = wA.alloc (.cells #[.int .i64 gc, .slice ga gn gd] 26 (0, 0)) := ⟨_, rfl⟩
            have alA := alloc_bq wA (.cells #[.int .i64 gc, .slice ga gn gd] 26 (0, 0))
            rw [← hW] at alA
            have ZW := Lib.hid (ZA.out.trans (alA.mono ZA.out.size))
            have XW := Lib.hid (low_of alA XA.out)
            have GAW := Lib.hid (gA.below alA)
            have oW : Hid (W.heap[g]? = some (.cells #[.int .i64 gc, .slice ga gn gd] 26 (0, 0))) := Lib.hid (by rw [hg, hW]; exact oA.out)
            obtain ⟨S0, hS0⟩ : ∃ g, g = w.heap.size := ⟨_, rfl⟩
            have XW2 : Hid (W.heap[S0]? = some (.cells #[.int .i64 fc, .int .i64 ad, .int .i64 q, .slice vs vn vc, .int .i64 rto] 24 (0, 0))) := Lib.hid (by rw [hS0]; exact XW.out)
            obtain ⟨SX, hsx⟩ : ∃ s, s = strN D := ⟨_, rfl⟩
            have KS : Hid (∀ w', Gd W w' → w'.cell? ⟨S0, 0, none⟩ = some (.int .i64 fc) ∧ w'.cell? ⟨S0, 1, none⟩ = some (.int .i64 ad) ∧ w'.cell? ⟨S0, 2, none⟩ = some (.int .i64 q) ∧ w'.cell? ⟨S0, 3, none⟩ = some (.slice vs vn vc) ∧ w'.cell? ⟨S0, 4, none⟩ = some (.int .i64 rto) ∧ w'.cell? ⟨g, 0, none⟩ = some (.int .i64 gc) ∧ w'.cell? ⟨g, 1, none⟩ = some (.slice ga gn gd) ∧ (convert 27 9 (.slice a n c)).run Try.prog w' = .ok (.string SX) w') := Lib.hid (by
              intro w' h
              obtain ⟨h0, h1, h2, h3, h4⟩ := cells5 (low_of h XW2.out)
              obtain ⟨h5, h6⟩ := cells2q (low_of h oW.out)
              rw [hsx]
              exact ⟨h0, h1, h2, h3, h4, h5, h6, conv_bys (HBB.out.row.below (ZW.out.trans (Below.mono h ZW.out.size)))⟩)
            have RA2 : Hid (∀ w', Gd W w' → Calls Try.prog 10 #[.agg #[.int .i64 fc, .int .i64 ad, .int .i64 q, .slice vs vn vc, .int .i64 rto], .agg #[.int .i64 gc, .slice ga gn gd]] w' (fun e w5 => e = .returned (.bool true) ∧ Below w'.heap.size w' w5)) := Lib.hid (by
              intro w' h
              have := HR2.out ⟨gc, ga, gn, gd, GV⟩ w' (ZW.out.trans (Below.mono h ZW.out.size)) ⟨GAW.out.below h, HWF.out⟩
              rw [HK1.out] at this
              exact this)
            have PA2 : Hid (∀ w', Gd W w' → Calls Try.prog 9 #[.agg #[.int .i64 fc, .int .i64 ad, .int .i64 q, .slice vs vn vc, .int .i64 rto], .agg #[.int .i64 gc, .slice ga gn gd]] w' (fun e w5 => ∃ a c, e = .returned (.slice a n c) ∧ (convert 27 9 (.slice a n c)).run Try.prog w5 = .ok (.string SX) w5 ∧ Below w'.heap.size w' w5)) := Lib.hid (by
              intro w' h
              refine (HP2.out ⟨gc, ga, gn, gd, GV⟩ w' (ZW.out.trans (Below.mono h ZW.out.size)) ⟨GAW.out.below h, HWF.out⟩).mono ?_
              rintro e w5 ⟨v, rfl, ho, z5⟩
              rw [HK1.out, if_pos rfl, HK2.out] at ho
              obtain ⟨a, c, rfl, hA, _⟩ := OwnV.argB ho HBB.out.row.by'
              rw [HBB.out.row.ln] at hA
              refine ⟨a, c, by rw [HBB.out.row.ln], ?_, z5⟩
              rw [hsx]
              exact conv_bys hA.row)
            have g0 : Gd W W.drew := (Below.refl _ _).drew
            have h0 := KS.out _ g0
            have HWW := Lib.hid hW
            have HG := Lib.hid hg
            have HS := Lib.hid hS0
            clear hW hg hsx alA gA hS0

            go_upto_region 14 with fail
            rw [← HWW.out, ← HG.out]
            rw [← HS.out]
            go_region_held (fun w' => w'.cell? ⟨S0, 0, none⟩ = some (.int .i64 fc) ∧ w'.cell? ⟨S0, 1, none⟩ = some (.int .i64 ad) ∧ w'.cell? ⟨S0, 2, none⟩ = some (.int .i64 q) ∧ w'.cell? ⟨S0, 3, none⟩ = some (.slice vs vn vc) ∧ w'.cell? ⟨S0, 4, none⟩ = some (.int .i64 rto) ∧ w'.cell? ⟨g, 0, none⟩ = some (.int .i64 gc) ∧ w'.cell? ⟨g, 1, none⟩ = some (.slice ga gn gd) ∧ (convert 27 9 (.slice a n c)).run Try.prog w' = .ok (.string SX) w') (first | exact h0 | exact s5 | exact s6 | go_keep) (first
              | (go_at_call 10; refine (RA2.out _ g0).mono ?_; rintro e w5 ⟨rfl, z5⟩; have q5 : Gd W w5 := Gd.step g0 z5; have s5 := KS.out w5 q5; clear z5)
              | (go_at_call 9; refine (PA2.out _ q5).mono ?_; rintro e w6 ⟨a6, c6, rfl, cv6, z6⟩; have q6 : Gd W w6 := Gd.step q5 z6; have s6 := KS.out w6 q6; clear z6))
            all_goals
              go_wp2_with fail
              exact FIN.out _ (ZW.out.trans (Below.mono q6 ZW.out.size))
      · rw [if_pos hc]
        have t3 : (code == 0) = false := by simp [hc]
        clear hc
        go_wp2_with fail
        refine SM.mono ?_
        rintro e w7 ⟨rfl, z7⟩
        have B7 := Lib.hid (B6.out.trans (Below.mono z7 B6.out.size))
        have X7 := Lib.hid (low_of z7 X6.out)
        have Y7 := Lib.hid (low_of z7 Y6.out)
        clear z7 SM o0 o1 y0 y1
        obtain ⟨y0, y1⟩ := cells2q Y7.out
        have G11 := HG11.out w7 B7.out
        obtain ⟨c0, c1, c2, c3, c4⟩ := cells5 X7.out
        go_wp2_with fail
        refine G11.mono ?_
        rintro e wA ⟨ga, gn, gd, rfl, gA, zA⟩
        have ZA := Lib.hid ((B7.out).trans (zA.mono (B7.out).size))
        have XA := Lib.hid (low_of zA X7.out)
        clear G11 zA c0 c1 c2 c3 c4
        rcases HCS.out with hE | ⟨gc, GV, h1, h2, h3⟩
        · subst hE
          simp only at gA ⊢
          have al := alloc_bq wA (.cells #[.int .i64 0, .slice ga gn gd] 26 (0, 0))
          have SM := sameR_any ⟨0, ga, gn, gd, []⟩ ⟨0, none, 0, 0, []⟩ (wA.alloc (.cells #[.int .i64 0, .slice ga gn gd] 26 (0, 0))) (gA.below al) (argW_none _)
          rw [show sameB (⟨0, ga, gn, gd, []⟩ : Rp).code (⟨0, none, 0, 0, []⟩ : Rp).code (⟨0, ga, gn, gd, []⟩ : Rp).V (⟨0, none, 0, 0, []⟩ : Rp).V = true from rfl] at SM
          simp only [rpv] at SM
          have ZW := Lib.hid (ZA.out.trans (al.mono ZA.out.size))
          obtain ⟨o0, o1⟩ := cells2q (heap_alloc_new wA (.cells #[.int .i64 0, .slice ga gn gd] 26 (0, 0)))
          clear al gA
          go_wp2_with fail
          refine SM.mono ?_
          rintro e wC ⟨rfl, zC⟩
          have ZC := Lib.hid (ZW.out.trans (Below.mono zC ZW.out.size))
          clear zC o0 o1
          go_wp2_with fail
          exact FIN.out _ ZC.out
        · have HK1 := Lib.hid h1
          have HK2 := Lib.hid h2
          have HWF := HCW.out gc GV h3
          clear h1 h2
          by_cases hz : gc = 0
          · subst hz
            rw [if_neg (by simp)] at h3
            subst h3
            simp only at gA ⊢
            have oA := Lib.hid (heap_alloc_new wA (.cells #[.int .i64 0, .slice ga gn gd] 26 (0, 0)))
            obtain ⟨g, hg⟩ : ∃ g, g = wA.heap.size := ⟨_, rfl⟩
            obtain ⟨W, hW⟩ : ∃ W, W = wA.alloc (.cells #[.int .i64 0, .slice ga gn gd] 26 (0, 0)) := ⟨_, rfl⟩
            have alA := alloc_bq wA (.cells #[.int .i64 0, .slice ga gn gd] 26 (0, 0))
            rw [← hW] at alA
            have ZW := Lib.hid (ZA.out.trans (alA.mono ZA.out.size))
            have XW := Lib.hid (low_of alA XA.out)
            have GAW := Lib.hid (gA.below alA)
            have oW : Hid (W.heap[g]? = some (.cells #[.int .i64 0, .slice ga gn gd] 26 (0, 0))) := Lib.hid (by rw [hg, hW]; exact oA.out)
            obtain ⟨S0, hS0⟩ : ∃ g, g = w.heap.size := ⟨_, rfl⟩
            have XW2 : Hid (W.heap[S0]? = some (.cells #[.int .i64 fc, .int .i64 ad, .int .i64 q, .slice vs vn vc, .int .i64 rto] 24 (0, 0))) := Lib.hid (by rw [hS0]; exact XW.out)
            obtain ⟨SX, hsx⟩ : ∃ s, s = strN D := ⟨_, rfl⟩
            have KS : Hid (∀ w', Gd W w' → w'.cell? ⟨S0, 0, none⟩ = some (.int .i64 fc) ∧ w'.cell? ⟨S0, 1, none⟩ = some (.int .i64 ad) ∧ w'.cell? ⟨S0, 2, none⟩ = some (.int .i64 q) ∧ w'.cell? ⟨S0, 3, none⟩ = some (.slice vs vn vc) ∧ w'.cell? ⟨S0, 4, none⟩ = some (.int .i64 rto) ∧ w'.cell? ⟨g, 0, none⟩ = some (.int .i64 0) ∧ w'.cell? ⟨g, 1, none⟩ = some (.slice ga gn gd) ∧ (convert 27 9 (.slice a n c)).run Try.prog w' = .ok (.string SX) w') := Lib.hid (by
              intro w' h
              obtain ⟨h0, h1, h2, h3, h4⟩ := cells5 (low_of h XW2.out)
              obtain ⟨h5, h6⟩ := cells2q (low_of h oW.out)
              rw [hsx]
              exact ⟨h0, h1, h2, h3, h4, h5, h6, conv_bys (HBB.out.row.below (ZW.out.trans (Below.mono h ZW.out.size)))⟩)
            have RA2 : Hid (∀ w', Gd W w' → Calls Try.prog 10 #[.agg #[.int .i64 fc, .int .i64 ad, .int .i64 q, .slice vs vn vc, .int .i64 rto], .agg #[.int .i64 0, .slice ga gn gd]] w' (fun e w5 => e = .returned (.bool true) ∧ Below w'.heap.size w' w5)) := Lib.hid (by
              intro w' h
              have := HR2.out ⟨0, ga, gn, gd, GV⟩ w' (ZW.out.trans (Below.mono h ZW.out.size)) ⟨GAW.out.below h, HWF.out⟩
              rw [HK1.out] at this
              exact this)
            have PA2 : Hid (∀ w', Gd W w' → Calls Try.prog 9 #[.agg #[.int .i64 fc, .int .i64 ad, .int .i64 q, .slice vs vn vc, .int .i64 rto], .agg #[.int .i64 0, .slice ga gn gd]] w' (fun e w5 => ∃ a c, e = .returned (.slice a n c) ∧ (convert 27 9 (.slice a n c)).run Try.prog w5 = .ok (.string SX) w5 ∧ Below w'.heap.size w' w5)) := Lib.hid (by
              intro w' h
              refine (HP2.out ⟨0, ga, gn, gd, GV⟩ w' (ZW.out.trans (Below.mono h ZW.out.size)) ⟨GAW.out.below h, HWF.out⟩).mono ?_
              rintro e w5 ⟨v, rfl, ho, z5⟩
              rw [HK1.out, if_pos rfl, HK2.out] at ho
              obtain ⟨a, c, rfl, hA, _⟩ := OwnV.argB ho HBB.out.row.by'
              rw [HBB.out.row.ln] at hA
              refine ⟨a, c, by rw [HBB.out.row.ln], ?_, z5⟩
              rw [hsx]
              exact conv_bys hA.row)
            have g0 : Gd W W.drew := (Below.refl _ _).drew
            have h0 := KS.out _ g0
            have HWW := Lib.hid hW
            have HG := Lib.hid hg
            have HS := Lib.hid hS0
            clear hW hg hsx alA gA hS0

            go_upto_region 14 with fail
            rw [← HWW.out, ← HG.out]
            rw [← HS.out]
            go_region_held (fun w' => w'.cell? ⟨S0, 0, none⟩ = some (.int .i64 fc) ∧ w'.cell? ⟨S0, 1, none⟩ = some (.int .i64 ad) ∧ w'.cell? ⟨S0, 2, none⟩ = some (.int .i64 q) ∧ w'.cell? ⟨S0, 3, none⟩ = some (.slice vs vn vc) ∧ w'.cell? ⟨S0, 4, none⟩ = some (.int .i64 rto) ∧ w'.cell? ⟨g, 0, none⟩ = some (.int .i64 0) ∧ w'.cell? ⟨g, 1, none⟩ = some (.slice ga gn gd) ∧ (convert 27 9 (.slice a n c)).run Try.prog w' = .ok (.string SX) w') (first | exact h0 | exact s5 | exact s6 | go_keep) (first
              | (go_at_call 10; refine (RA2.out _ g0).mono ?_; rintro e w5 ⟨rfl, z5⟩; have q5 : Gd W w5 := Gd.step g0 z5; have s5 := KS.out w5 q5; clear z5)
              | (go_at_call 9; refine (PA2.out _ q5).mono ?_; rintro e w6 ⟨a6, c6, rfl, cv6, z6⟩; have q6 : Gd W w6 := Gd.step q5 z6; have s6 := KS.out w6 q6; clear z6))
            all_goals
              go_wp2_with fail
              exact FIN.out _ (ZW.out.trans (Below.mono q6 ZW.out.size))
          · rw [if_pos hz] at h3
            subst h3
            simp only at gA ⊢
            have tz : (gc != 0) = true := by simp [hz]
            clear hz
            have oA := Lib.hid (heap_alloc_new wA (.cells #[.int .i64 gc, .slice ga gn gd] 26 (0, 0)))
            obtain ⟨g, hg⟩ : ∃ g, g = wA.heap.size := ⟨_, rfl⟩
            obtain ⟨W, hW⟩ : ∃ W, W = wA.alloc (.cells #[.int .i64 gc, .slice ga gn gd] 26 (0, 0)) := ⟨_, rfl⟩
            have alA := alloc_bq wA (.cells #[.int .i64 gc, .slice ga gn gd] 26 (0, 0))
            rw [← hW] at alA
            have ZW := Lib.hid (ZA.out.trans (alA.mono ZA.out.size))
            have XW := Lib.hid (low_of alA XA.out)
            have GAW := Lib.hid (gA.below alA)
            have oW : Hid (W.heap[g]? = some (.cells #[.int .i64 gc, .slice ga gn gd] 26 (0, 0))) := Lib.hid (by rw [hg, hW]; exact oA.out)
            obtain ⟨S0, hS0⟩ : ∃ g, g = w.heap.size := ⟨_, rfl⟩
            have XW2 : Hid (W.heap[S0]? = some (.cells #[.int .i64 fc, .int .i64 ad, .int .i64 q, .slice vs vn vc, .int .i64 rto] 24 (0, 0))) := Lib.hid (by rw [hS0]; exact XW.out)
            obtain ⟨SX, hsx⟩ : ∃ s, s = strN D := ⟨_, rfl⟩
            have KS : Hid (∀ w', Gd W w' → w'.cell? ⟨S0, 0, none⟩ = some (.int .i64 fc) ∧ w'.cell? ⟨S0, 1, none⟩ = some (.int .i64 ad) ∧ w'.cell? ⟨S0, 2, none⟩ = some (.int .i64 q) ∧ w'.cell? ⟨S0, 3, none⟩ = some (.slice vs vn vc) ∧ w'.cell? ⟨S0, 4, none⟩ = some (.int .i64 rto) ∧ w'.cell? ⟨g, 0, none⟩ = some (.int .i64 gc) ∧ w'.cell? ⟨g, 1, none⟩ = some (.slice ga gn gd) ∧ (convert 27 9 (.slice a n c)).run Try.prog w' = .ok (.string SX) w') := Lib.hid (by
              intro w' h
              obtain ⟨h0, h1, h2, h3, h4⟩ := cells5 (low_of h XW2.out)
              obtain ⟨h5, h6⟩ := cells2q (low_of h oW.out)
              rw [hsx]
              exact ⟨h0, h1, h2, h3, h4, h5, h6, conv_bys (HBB.out.row.below (ZW.out.trans (Below.mono h ZW.out.size)))⟩)
            have RA2 : Hid (∀ w', Gd W w' → Calls Try.prog 10 #[.agg #[.int .i64 fc, .int .i64 ad, .int .i64 q, .slice vs vn vc, .int .i64 rto], .agg #[.int .i64 gc, .slice ga gn gd]] w' (fun e w5 => e = .returned (.bool true) ∧ Below w'.heap.size w' w5)) := Lib.hid (by
              intro w' h
              have := HR2.out ⟨gc, ga, gn, gd, GV⟩ w' (ZW.out.trans (Below.mono h ZW.out.size)) ⟨GAW.out.below h, HWF.out⟩
              rw [HK1.out] at this
              exact this)
            have PA2 : Hid (∀ w', Gd W w' → Calls Try.prog 9 #[.agg #[.int .i64 fc, .int .i64 ad, .int .i64 q, .slice vs vn vc, .int .i64 rto], .agg #[.int .i64 gc, .slice ga gn gd]] w' (fun e w5 => ∃ a c, e = .returned (.slice a n c) ∧ (convert 27 9 (.slice a n c)).run Try.prog w5 = .ok (.string SX) w5 ∧ Below w'.heap.size w' w5)) := Lib.hid (by
              intro w' h
              refine (HP2.out ⟨gc, ga, gn, gd, GV⟩ w' (ZW.out.trans (Below.mono h ZW.out.size)) ⟨GAW.out.below h, HWF.out⟩).mono ?_
              rintro e w5 ⟨v, rfl, ho, z5⟩
              rw [HK1.out, if_pos rfl, HK2.out] at ho
              obtain ⟨a, c, rfl, hA, _⟩ := OwnV.argB ho HBB.out.row.by'
              rw [HBB.out.row.ln] at hA
              refine ⟨a, c, by rw [HBB.out.row.ln], ?_, z5⟩
              rw [hsx]
              exact conv_bys hA.row)
            have g0 : Gd W W.drew := (Below.refl _ _).drew
            have h0 := KS.out _ g0
            have HWW := Lib.hid hW
            have HG := Lib.hid hg
            have HS := Lib.hid hS0
            clear hW hg hsx alA gA hS0

            go_upto_region 14 with fail
            rw [← HWW.out, ← HG.out]
            rw [← HS.out]
            go_region_held (fun w' => w'.cell? ⟨S0, 0, none⟩ = some (.int .i64 fc) ∧ w'.cell? ⟨S0, 1, none⟩ = some (.int .i64 ad) ∧ w'.cell? ⟨S0, 2, none⟩ = some (.int .i64 q) ∧ w'.cell? ⟨S0, 3, none⟩ = some (.slice vs vn vc) ∧ w'.cell? ⟨S0, 4, none⟩ = some (.int .i64 rto) ∧ w'.cell? ⟨g, 0, none⟩ = some (.int .i64 gc) ∧ w'.cell? ⟨g, 1, none⟩ = some (.slice ga gn gd) ∧ (convert 27 9 (.slice a n c)).run Try.prog w' = .ok (.string SX) w') (first | exact h0 | exact s5 | exact s6 | go_keep) (first
              | (go_at_call 10; refine (RA2.out _ g0).mono ?_; rintro e w5 ⟨rfl, z5⟩; have q5 : Gd W w5 := Gd.step g0 z5; have s5 := KS.out w5 q5; clear z5)
              | (go_at_call 9; refine (PA2.out _ q5).mono ?_; rintro e w6 ⟨a6, c6, rfl, cv6, z6⟩; have q6 : Gd W w6 := Gd.step q5 z6; have s6 := KS.out w6 q6; clear z6))
            all_goals
              go_wp2_with fail
              exact FIN.out _ (ZW.out.trans (Below.mono q6 ZW.out.size))
end Go.Proofs.Ythcfmfkdglmkmaa
