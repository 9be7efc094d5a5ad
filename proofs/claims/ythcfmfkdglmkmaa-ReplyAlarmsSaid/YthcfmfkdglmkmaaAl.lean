/- ReplyAlarms. -/
import Derived.Test.YthcfmfkdglmkmaaWi
import Derived.Deep.RegionHeld
namespace Go.Proofs.Ythcfmfkdglmkmaa
set_option linter.unusedVariables false
set_option linter.unusedSimpArgs false
open Go.ChangeShapes Go.WideShapes Go.ChangeAt Go.RowKit

set_option maxRecDepth 100000 in
set_option maxHeartbeats 20000000 in
theorem alarms_any (r : Rq) (cd : Int) (w : World) (hr : r.ok w) (h0 : 0 ≤ cd) (h255 : cd ≤ 255) : Calls Try.prog 5 #[rv r, .int .u8 cd] w (BoolB w true) := by
  obtain ⟨P, hP⟩ : ∃ P, P = (BoolB w true : Ending → World → Prop) := ⟨_, rfl⟩
  rw [← hP]
  have FIN : Hid (∀ W', Below w.heap.size w W' → P (.returned (.bool true)) W') := Lib.hid (fun W' h => by rw [hP]; exact ⟨rfl, h⟩)
  obtain ⟨cd, rfl⟩ : ∃ k : Nat, cd = (k : Int) := ⟨cd.toNat, by omega⟩
  obtain ⟨cn, hcn⟩ : ∃ k : Nat, k = cd % 4 + 1 := ⟨_, rfl⟩
  have HR := Lib.hid (fun W (h : Below w.heap.size w W) => right14_any r W (hr.below h))
  have HPD := Lib.hid (fun (hh : rightR r = true) W (h : Below w.heap.size w W) => putD_any r W (hr.below h) hh)
  have HCN : Hid (1 ≤ cn ∧ cn ≤ 4) := Lib.hid (by omega)
  obtain ⟨RL, hRL⟩ : ∃ L, L = repN r (cn : Int) [] := ⟨_, rfl⟩
  have FAL : Hid (rightR r = true → ∀ L, alN (r.fc.toNat :: L) (cn : Int) = RL) := Lib.hid (fun hh L => by rw [hRL]; exact (al_rep hh (by have := HCN.out; omega) (by have := HCN.out; omega) L).1)
  have OKQ : Hid (rightR r = true → okR r (cn : Int) [] = true) := Lib.hid (fun hh => (al_rep hh (by have := HCN.out; omega) (by have := HCN.out; omega) []).2)
  have HBY : Hid (rightR r = true → ∀ b ∈ RL, b < 256) := Lib.hid (fun hh => by
    rw [hRL]
    have ho := OKQ.out hh
    exact repN_by hr hh (ok_right ho).2 (by simp) (ok_len ho))
  have HLN : Hid (rightR r = true → RL.length ≤ 253) := Lib.hid (fun hh => by rw [hRL]; exact (repN_len (OKQ.out hh)).2)
  have HGQ := Lib.hid (fun (hh : rightR r = true) (W : World) (h : Below w.heap.size w W) (a : Option Addr) (n c : Nat) (hA : ArgB W a n c RL) (hn : n ≤ 100000) => show Calls Try.prog 11 #[rv r, .slice a n c] W (GetQ W (((cn : Int), []), 52)) by
    have := getQ_any r a n c _ W (hr.below h) hA hn
    rw [hRL, getF_put (OKQ.out hh), if_pos (by have := HCN.out; omega)] at this
    exact this)
  have HPQ := Lib.hid (fun (hh : rightR r = true) (a : Option Addr) (n c : Nat) (W : World) (h : Below w.heap.size w W) (hA : ArgW W a n c []) => show Calls Try.prog 9 #[rv r, .agg #[.int .i64 (cn : Int), .slice a n c]] W (OutP W RL) by
    have := putQ_any r ⟨(cn : Int), a, n, c, []⟩ W (hr.below h) ⟨hA, wf_i64 (by show (-9223372036854775808 : Int) ≤ (cn : Int); omega) (by show (cn : Int) ≤ (9223372036854775807 : Int); have := HCN.out; omega)⟩
    simp only [OKQ.out hh, if_true, rpv] at this
    rw [hRL]
    exact this)
  generalize rightR r = rx at *
  clear hP hr hRL OKQ
  obtain ⟨fc, ad, q, vs, vn, vc, V, rto⟩ := r
  simp only [rv] at HR HPD HGQ HPQ FAL ⊢
  obtain ⟨W, hW⟩ : ∃ W, W = w.alloc (.cells #[.int .i64 fc, .int .i64 ad, .int .i64 q, .slice vs vn vc, .int .i64 rto] 24 (0, 0)) := ⟨_, rfl⟩
  have k1 := alloc_bq w (.cells #[.int .i64 fc, .int .i64 ad, .int .i64 q, .slice vs vn vc, .int .i64 rto] 24 (0, 0))
  have hx := heap_alloc_new w (.cells #[.int .i64 fc, .int .i64 ad, .int .i64 q, .slice vs vn vc, .int .i64 rto] 24 (0, 0))
  rw [← hW] at k1 hx
  have B0 := Lib.hid k1
  have X0 := Lib.hid hx
  have HW := Lib.hid hW
  have HD := head_any W
  have HCE := Lib.hid hcn
  have cm : cd % 4 < 4 := Nat.mod_lt _ (by omega)
  have u4 : IntKind.u8.wrap ((cd : Int) % 4) = (cd : Int) % 4 := by simp [IntKind.wrap, IntKind.bits, IntKind.signed]; omega
  obtain ⟨c0, c1, c2, c3, c4⟩ := cells5 X0.out
  clear k1 hx hW hcn
  go_enter Try.func5, Try.ntmps5
  go_upto_region 1 with fail
  rw [← HW.out]
  go_wp2_with fail
  refine HD.mono ?_
  rintro e w1 ⟨rfl, z1⟩
  have B1 := Lib.hid (B0.out.trans (Below.mono z1 B0.out.size))
  have X1 := Lib.hid (low_of z1 X0.out)
  clear z1 c0 c1 c2 c3 c4 HD
  obtain ⟨c0, c1, c2, c3, c4⟩ := cells5 X1.out
  by_cases hn : 3000 < vn
  · have t1 : decide ((3000 : Int) < (vn : Int)) = true := by simp; omega
    clear hn
    go_wp2_with fail
    exact FIN.out _ B1.out
  have t1 : decide ((3000 : Int) < (vn : Int)) = false := by simp; omega
  clear hn
  go_wp2_with fail
  refine (HR.out w1 B1.out).mono ?_
  rintro e w2 ⟨rfl, z2⟩
  have B2 := Lib.hid (B1.out.trans (Below.mono z2 B1.out.size))
  have X2 := Lib.hid (low_of z2 X1.out)
  clear z2 c0 c1 c2 c3 c4 t1
  obtain ⟨c0, c1, c2, c3, c4⟩ := cells5 X2.out
  cases rx with
  | false =>
    go_wp2_with fail
    exact FIN.out _ B2.out
  | true =>
  have FAL2 := Lib.hid (FAL.out (by trivial))
  have HBY2 := Lib.hid (HBY.out (by trivial))
  have HLN2 := Lib.hid (HLN.out (by trivial))
  have HGQ2 := Lib.hid (HGQ.out (by trivial))
  have HPQ2 := Lib.hid (HPQ.out (by trivial))
  have HPD2 := Lib.hid (HPD.out (by trivial))
  clear FAL HBY HLN HGQ HPQ HPD HR
  go_wp2_with fail
  refine (HPD2.out w2 B2.out).mono ?_
  rintro e w3 ⟨v3, L, rfl, o3, y3, l3, z3⟩
  obtain ⟨a3, d3, hv3, A3, _⟩ := OwnV.argB o3 y3
  subst hv3
  have B3 := Lib.hid (B2.out.trans (Below.mono z3 B2.out.size))
  have X3 := Lib.hid (low_of z3 X2.out)
  have AL3 := alarm_any a3 _ d3 _ (cn : Int) w3 A3.row
  rw [FAL2.out L] at AL3
  generalize (fc.toNat :: L).length = n3 at AL3 ⊢
  have A3L := Lib.hid AL3
  clear z3 o3 y3 l3 A3 AL3 c0 c1 c2 c3 c4
  go_wp2_with fail
  have hce : (cd : Int) % 4 + 1 = (cn : Int) := by have := HCE.out; omega
  rw [hce]
  refine A3L.out.mono ?_
  rintro e w5 ⟨v5, rfl, o5, z5⟩
  obtain ⟨a5, d5, hv5, A5, _⟩ := OwnV.argB o5 HBY2.out
  subst hv5
  have B5 := Lib.hid (B3.out.trans (Below.mono z5 B3.out.size))
  have X5 := Lib.hid (low_of z5 X3.out)
  have hl5 : RL.length ≤ 253 := HLN2.out
  generalize RL.length = m at A5 hl5 ⊢
  have HA5 := Lib.hid A5
  have G6 := Lib.hid (HGQ2.out w5 B5.out a5 m d5 A5 (by omega))
  have AL0 := Lib.hid (fun W (h : Below w5.heap.size w5 W) => show Calls Try.prog 16 #[.slice a5 m d5, .int .i64 0] W (fun e w' => ∃ a c, e = .returned (.slice a 0 c) ∧ Below W.heap.size W w') by
    refine (alarm_any a5 m d5 _ 0 W (HA5.out.row.below h)).mono ?_
    rintro e w' ⟨v, rfl, ho, z⟩
    rw [al_none _ (by omega)] at ho
    obtain ⟨a, c, rfl⟩ := own_form ho
    exact ⟨a, c, rfl, z⟩)
  have AL5 := Lib.hid (fun W (h : Below w5.heap.size w5 W) => show Calls Try.prog 16 #[.slice a5 m d5, .int .i64 5] W (fun e w' => ∃ a c, e = .returned (.slice a 0 c) ∧ Below W.heap.size W w') by
    refine (alarm_any a5 m d5 _ 5 W (HA5.out.row.below h)).mono ?_
    rintro e w' ⟨v, rfl, ho, z⟩
    rw [al_none _ (by omega)] at ho
    obtain ⟨a, c, rfl⟩ := own_form ho
    exact ⟨a, c, rfl, z⟩)
  clear z5 o5 A5 A3L hce u4 cm
  obtain ⟨c0, c1, c2, c3, c4⟩ := cells5 X5.out
  go_wp2_with fail
  refine G6.out.mono ?_
  rintro e w6 ⟨ga, gn, gd, rfl, gA, z6⟩
  simp only at gA ⊢
  obtain rfl : gn = 0 := by have := gA.row.ln; simpa using this.symm
  have B6 := Lib.hid (B5.out.trans (Below.mono z6 B5.out.size))
  have Z6 := Lib.hid z6
  have X6 := Lib.hid (low_of z6 X5.out)
  have oA := Lib.hid (heap_alloc_new w6 (.cells #[.int .i64 (cn : Int), .slice ga 0 gd] 26 (0, 0)))
  have alA := alloc_bq w6 (.cells #[.int .i64 (cn : Int), .slice ga 0 gd] 26 (0, 0))
  obtain ⟨g, hg⟩ : ∃ g, g = w6.heap.size := ⟨_, rfl⟩
  obtain ⟨W7, hW7⟩ : ∃ W, W = w6.alloc (.cells #[.int .i64 (cn : Int), .slice ga 0 gd] 26 (0, 0)) := ⟨_, rfl⟩
  rw [← hW7] at alA
  have ZW := Lib.hid (B6.out.trans (alA.mono B6.out.size))
  have Z57 := Lib.hid (Z6.out.trans (alA.mono Z6.out.size))
  have XW := Lib.hid (low_of alA X6.out)
  have GAW := Lib.hid (gA.below alA)
  have oW : Hid (W7.heap[g]? = some (.cells #[.int .i64 (cn : Int), .slice ga 0 gd] 26 (0, 0))) := Lib.hid (by rw [hg, hW7]; exact oA.out)
  obtain ⟨S0, hS0⟩ : ∃ g, g = w.heap.size := ⟨_, rfl⟩
  have XW2 : Hid (W7.heap[S0]? = some (.cells #[.int .i64 fc, .int .i64 ad, .int .i64 q, .slice vs vn vc, .int .i64 rto] 24 (0, 0))) := Lib.hid (by rw [hS0]; exact XW.out)
  obtain ⟨SX, hsx⟩ : ∃ s, s = strN RL := ⟨_, rfl⟩
  have KS : Hid (∀ w', Gd W7 w' → w'.cell? ⟨S0, 0, none⟩ = some (.int .i64 fc) ∧ w'.cell? ⟨S0, 1, none⟩ = some (.int .i64 ad) ∧ w'.cell? ⟨S0, 2, none⟩ = some (.int .i64 q) ∧ w'.cell? ⟨S0, 3, none⟩ = some (.slice vs vn vc) ∧ w'.cell? ⟨S0, 4, none⟩ = some (.int .i64 rto) ∧ w'.cell? ⟨g, 0, none⟩ = some (.int .i64 (cn : Int)) ∧ w'.cell? ⟨g, 1, none⟩ = some (.slice ga 0 gd) ∧ (convert 27 9 (.slice a5 m d5)).run Try.prog w' = .ok (.string SX) w') := Lib.hid (by
    intro w' h
    obtain ⟨h0, h1, h2, h3, h4⟩ := cells5 (low_of h XW2.out)
    obtain ⟨h5, h6⟩ := cells2q (low_of h oW.out)
    rw [hsx]
    exact ⟨h0, h1, h2, h3, h4, h5, h6, conv_bys (HA5.out.row.below (Z57.out.trans (Below.mono h Z57.out.size)))⟩)
  have PA2 : Hid (∀ w', Gd W7 w' → Calls Try.prog 9 #[.agg #[.int .i64 fc, .int .i64 ad, .int .i64 q, .slice vs vn vc, .int .i64 rto], .agg #[.int .i64 (cn : Int), .slice ga 0 gd]] w' (fun e w5 => ∃ a n c, e = .returned (.slice a n c) ∧ (convert 27 9 (.slice a n c)).run Try.prog w5 = .ok (.string SX) w5 ∧ Below w'.heap.size w' w5)) := Lib.hid (by
    intro w' h
    refine (HPQ2.out ga 0 gd w' (ZW.out.trans (Below.mono h ZW.out.size)) (GAW.out.below h)).mono ?_
    rintro e w5 ⟨v, rfl, ho, z5⟩
    obtain ⟨a, c, rfl, hA, _⟩ := OwnV.argB ho HBY2.out
    refine ⟨a, _, c, rfl, ?_, z5⟩
    rw [hsx]
    exact conv_bys hA.row)
  have R0 : Hid (∀ w', Gd W7 w' → Calls Try.prog 16 #[.slice a5 m d5, .int .i64 0] w' (fun e w5 => ∃ a c, e = .returned (.slice a 0 c) ∧ Below w'.heap.size w' w5)) := Lib.hid (fun w' h => AL0.out w' (Z57.out.trans (Below.mono h Z57.out.size)))
  have R5 : Hid (∀ w', Gd W7 w' → Calls Try.prog 16 #[.slice a5 m d5, .int .i64 5] w' (fun e w5 => ∃ a c, e = .returned (.slice a 0 c) ∧ Below w'.heap.size w' w5)) := Lib.hid (fun w' h => AL5.out w' (Z57.out.trans (Below.mono h Z57.out.size)))
  have g0 : Gd W7 W7.drew := (Below.refl _ _).drew
  have h0 := KS.out _ g0
  have HWW := Lib.hid hW7
  have HG := Lib.hid hg
  have HS := Lib.hid hS0
  clear hW7 hg hsx alA gA hS0 z6 c0 c1 c2 c3 c4
  go_upto_region 7 with fail
  rw [← HWW.out, ← HG.out]
  rw [← HS.out]
  go_region_held (fun w' => w'.cell? ⟨S0, 0, none⟩ = some (.int .i64 fc) ∧ w'.cell? ⟨S0, 1, none⟩ = some (.int .i64 ad) ∧ w'.cell? ⟨S0, 2, none⟩ = some (.int .i64 q) ∧ w'.cell? ⟨S0, 3, none⟩ = some (.slice vs vn vc) ∧ w'.cell? ⟨S0, 4, none⟩ = some (.int .i64 rto) ∧ w'.cell? ⟨g, 0, none⟩ = some (.int .i64 (cn : Int)) ∧ w'.cell? ⟨g, 1, none⟩ = some (.slice ga 0 gd) ∧ (convert 27 9 (.slice a5 m d5)).run Try.prog w' = .ok (.string SX) w') (first | exact h0 | exact s5 | exact s6 | exact s7 | go_keep) (first
    | (go_at_call 9; refine (PA2.out _ g0).mono ?_; rintro e w8 ⟨a8, n8, d8, rfl, cv8, z8⟩; have q5 : Gd W7 w8 := Gd.step g0 z8; have s5 := KS.out w8 q5; clear z8)
    | (go_at_call 16; refine (R5.out _ q6).mono ?_; rintro e wA ⟨aA, dA, rfl, zA⟩; have q7 : Gd W7 wA := Gd.step q6 zA; have s7 := KS.out wA q7; clear zA)
    | (go_at_call 16; refine (R0.out _ q5).mono ?_; rintro e w9 ⟨a9, d9, rfl, z9⟩; have q6 : Gd W7 w9 := Gd.step q5 z9; have s6 := KS.out w9 q6; clear z9))
  all_goals
    go_wp2_with fail
    exact FIN.out _ (ZW.out.trans (Below.mono q7 ZW.out.size))
end Go.Proofs.Ythcfmfkdglmkmaa
