/- The document's Get: bytes whose request has not its shape. -/
import Derived.Test.YtdolgpogjnfpkaaSv22
import Derived.Deep.RegionHeld3
namespace Go.Proofs.Ytdolgpogjnfpkaa
set_option linter.unusedVariables false
set_option linter.unusedSimpArgs false
open Go.ChangeShapes Go.WideShapes Go.ChangeAt Go.RowKit

set_option maxRecDepth 100000 in
set_option maxHeartbeats 8000000 in
theorem getD_shape (a : Option Addr) (n c : Nat) (L : List Nat) (w : World) (h : ArgB w a n c L) (hn : n ≤ 100000) (h0 : 0 < n) (hk : formOf ((L.getD 0 0 : Nat) : Int) = some (fo ((L.getD 0 0 : Nat) : Int))) (hs : has (fo ((L.getD 0 0 : Nat) : Int)) (rq4 L) = false) : Calls Try.prog 23 #[.slice a n c] w (GetP w L) := by
  have hln := h.row.ln
  have hL0 : ¬ L = [] := fun e => by rw [e] at hln; simp at hln; omega
  have hc : getC L = 3 := by
    rw [← (ref4_get h.row.by').1]
    unfold ref4
    rw [if_neg hL0, hk, if_neg (by simp), hs]
    rfl
  have HPB := Lib.hid (fun w' hb => getp_bad hc (by omega) (w := w) w' hb)
  have hten := ten_of hk
  have RD := fun W (hb : Below w.heap.size w W) => readD_any a n c L W ⟨h.row.below hb, h.nil, h.le, h.mx⟩ hn h0 hten
  have hsh : ∀ vs vn vc W, ArgW W vs vn vc (rdV L) → Calls Try.prog 45 #[rv (wsl (rq4 L) vs vn vc)] W (BoolB W false) := by
    intro vs vn vc W hA
    have hok := rq4_ok h.row.by' hA
    have := shape_any _ W hok
    rwa [shape_has hok, show (wsl (rq4 L) vs vn vc).fc = ((L.getD 0 0 : Nat) : Int) from rfl, hk, (fld (fo ((L.getD 0 0 : Nat) : Int)) (r := wsl (rq4 L) vs vn vc) (s := rq4 L) ⟨rfl, rfl, rfl, rfl, rfl⟩).1, hs] at this
  have hmo : most ((L.getD 0 0 : Nat) : Int) ≠ 0 := fun e => by rw [(most_form _).1 e] at hk; cases hk
  obtain ⟨b, off, rfl, hbl, hcc⟩ := h.row.pos h0
  have cb0 : w.cell? ⟨b, off, none⟩ = some (.int .u8 ((L.getD 0 0 : Nat) : Int)) := hcc 0 (by omega)
  have l0 := getD_lt h.row.by' 0
  have MO := fun W => most_any ((L.getD 0 0 : Nat) : Int) W
  unfold ReadP at RD
  simp only [rv, wsl, rq4] at hsh
  generalize L.getD 0 0 = x0 at cb0 l0 RD hsh MO hmo
  generalize most (x0 : Int) = mo at MO hmo
  generalize atN L 1 = ad at RD hsh
  generalize rdQn L = q at RD hsh
  generalize rdT L = tt at RD hsh
  generalize rdV L = V at RD hsh
  have HMO := Lib.hid MO
  have HRD := Lib.hid RD
  have HSH := Lib.hid hsh
  have u0 : IntKind.i64.wrap (x0 : Int) = (x0 : Int) := IntWalk.i64_in _ (by omega)
  have t0 : ((n : Int) == 0) = false := by simp; omega
  have t1 : (mo == 0) = false := by simp [hmo]
  have i0 : (0 : Int) < (n : Int) := by omega
  have BW := Lib.hid ((Below.refl w.heap.size w).alloc (Nat.le_refl _) Z32)
  have ZW := Lib.hid (heap_alloc_new w Z32)
  have cbA : (w.alloc Z32).cell? ⟨b, off, none⟩ = some (.int .u8 (x0 : Int)) := (Below.cell BW.out (p := ⟨b, off, none⟩) hbl).trans cb0
  clear h hc hln h0 hk hs hcc hten hL0 hmo MO RD hsh
  go_enter Try.func23, Try.ntmps23
  go_wp2_with fail
  refine (HMO.out _).mono ?_
  rintro e w1 ⟨rfl, e1⟩
  rw [e1]
  clear e1
  go_wp2_with fail
  refine (HRD.out _ BW.out).mono ?_
  rintro e w2 ⟨a2, n2, c2, rfl, A2, nw2, z2⟩
  have al := alloc_bq w2 (.cells #[.int .i64 (x0 : Int), .int .i64 (ad : Int), .int .i64 (q : Int), .slice a2 n2 c2, .int .i64 (tt : Int)] 32 (0, 0))
  have x2 := heap_alloc_new w2 (.cells #[.int .i64 (x0 : Int), .int .i64 (ad : Int), .int .i64 (q : Int), .slice a2 n2 c2, .int .i64 (tt : Int)] 32 (0, 0))
  have zR := low_of al (low_of z2 ZW.out)
  have b2 := BW.out.trans ((z2.trans (al.mono z2.size)).mono BW.out.size)
  have A3 := A2.below al
  go_upto_region 4 with fail
  obtain ⟨g, hg⟩ : ∃ g, g = w2.heap.size := ⟨_, rfl⟩
  obtain ⟨W, hW⟩ : ∃ W, W = w2.alloc (.cells #[.int .i64 (x0 : Int), .int .i64 (ad : Int), .int .i64 (q : Int), .slice a2 n2 c2, .int .i64 (tt : Int)] 32 (0, 0)) := ⟨_, rfl⟩
  rw [← hW] at x2 zR b2 A3 ⊢
  rw [← hg] at x2 ⊢
  have X2 := Lib.hid x2
  have ZR := Lib.hid zR
  have B2 := Lib.hid b2
  have SH := Lib.hid (HSH.out a2 n2 c2 W.drew (A3.below (Below.refl _ _).drew))
  have SH0 := Lib.hid (HSH.out a2 n2 c2 W A3)
  have c := cells5 x2
  obtain ⟨c0, c1, c2', c3, c4⟩ := c
  clear hg hW x2 zR b2 A3 A2 nw2 z2 al
  have KS := Lib.hid (fun (w' : World) (hb : Below W.heap.size W w') => cells5 (low_of hb X2.out))
  have q0 : Below W.heap.size W W.drew := (Below.refl _ _).drew
  first
    | go_region_with (first
      | (go_at_call 45; refine SH.out.mono ?_; rintro e w5 ⟨rfl, z5⟩; have q5 : Below W.heap.size W w5 := q0.trans z5)
      | (rw [if_neg (by exact (nofun : ¬ (none = some true)))]))
    | fail
  all_goals
    have BE := Lib.hid (B2.out.trans (Below.mono q5 (by exact B2.out.size)))
    have zF := low_of q5 ZR.out
    obtain ⟨d0, d1, d2, d3, d4⟩ := cells5 zF
    have s0 := froz (i := 0) zF
    have s1 := froz (i := 1) zF
    have s2 := froz (i := 2) zF
    have s3 := froz (i := 3) zF
    have s4 := froz (i := 4) zF
    clear z5 q5 zF
    go_wp2_with fail
    exact bodyPost_ret (v := .tuple #[.agg #[.int .i64 0, .int .i64 0, .int .i64 0, .slice none 0 0, .int .i64 0], .int .i64 3]) (by simp [results, Try.results23, go_sem, d0, d1, d2, d3, d4]) rfl (HPB.out _ (set5_bel BE.out (Nat.le_refl _) _ _ _ _ _))
end Go.Proofs.Ytdolgpogjnfpkaa
