/- MbapTells. -/
import Derived.Test.YtnihgpaandodjaaRc
namespace Go.Proofs.Ytnihgpaandodjaa
set_option linter.unusedVariables false
open Go.ChangeShapes Go.WideShapes Go.ChangeAt Go.RowKit

def firstD (L : List Nat) : Nat × Nat × List Nat := match firstR L with
  | .frame id u P => (id, u, P)
  | _ => (0, 0, [])
def FirstU (w : World) (L : List Nat) (e : Ending) (w' : World) : Prop :=
  ∃ X : Ad, e = .returned (.tuple #[.agg #[.int .u16 (X.id : Int), .int .u8 (X.u : Int), .slice X.s X.n X.c], .int .i64 (firstN L : Nat), .int .i64 (firstE L : Nat)]) ∧ X.ok w' ∧ dt X = firstD L ∧ Below w.heap.size w w'
def zad : Ad := ⟨0, 0, none, 0, 0, []⟩
theorem zad_ok (w : World) : zad.ok w := ⟨by decide, by decide, Bys.nil _ _, Nat.le_refl _, Nat.zero_le _⟩
theorem first_u (a : Option Addr) (len cap : Nat) (L : List Nat) (w : World) (h : ArgB w a len cap L) : Calls Try.prog 11 #[.slice a len cap] w (FirstU w L) := by
  refine (first_any a len cap L w h.row h.le h.mx).mono ?_
  rintro e w1 ⟨hb, hif⟩
  unfold FirstU firstN firstE firstD
  cases hr : firstR L with
  | bad => rw [hr] at hif; exact ⟨zad, hif, zad_ok _, rfl, hb⟩
  | more => rw [hr] at hif; exact ⟨zad, hif, zad_ok _, rfl, hb⟩
  | frame id u P =>
    rw [hr] at hif
    obtain ⟨g, he, hg, hbk⟩ := hif
    obtain ⟨_, _, q3, q4, q5, q6, q7⟩ := frame_math h.row.by' hr
    exact ⟨⟨id, u, some ⟨g, 0, none⟩, P.length, P.length, P⟩, he, ⟨q3, q4, bys_block P (by unfold maxLen; omega) q7 hbk, Nat.le_refl _, by show P.length ≤ maxLen; unfold maxLen; omega⟩, rfl, hb⟩
theorem rfirst_u (a : Option Addr) (len cap : Nat) (L : List Nat) (w : World) (h : ArgB w a len cap L) : Calls Try.prog 12 #[.slice a len cap] w (FirstU w L) := by
  refine (rfirst_any a len cap L w h.row h.le h.mx).mono ?_
  rintro e w1 ⟨hb, hif⟩
  unfold FirstU firstN firstE firstD
  cases hr : firstR L with
  | bad => rw [hr] at hif; exact ⟨zad, hif, zad_ok _, rfl, hb⟩
  | more => rw [hr] at hif; exact ⟨zad, hif, zad_ok _, rfl, hb⟩
  | frame id u P =>
    rw [hr] at hif
    obtain ⟨g, k, he, ho⟩ := hif
    obtain ⟨_, _, q3, q4, q5, q6, q7⟩ := frame_math h.row.by' hr
    obtain ⟨_, _, _, _, k1, k2, _⟩ := ho.at
    exact ⟨⟨id, u, some ⟨g, 0, none⟩, P.length, k, P⟩, he, ⟨q3, q4, ho.bys q7, k1, k2⟩, rfl, hb⟩
def putD (x : Ad) : List Nat := if 0 < x.P.length ∧ x.P.length ≤ 253 then putL x.id x.u x.P else []
def PutU (w : World) (x : Ad) (e : Ending) (w' : World) : Prop := ∃ a n c, e = .returned (.slice a n c) ∧ Bys w' a n (putD x) ∧ Below w.heap.size w w'
theorem put_u (x : Ad) (w w0 : World) (h : x.ok w0) (e : Ending) (w' : World) (hP : PutP w x.id x.u x.P e w') : PutU w x e w' := by
  obtain ⟨hb, hif⟩ := hP
  unfold PutU putD
  by_cases hc : 0 < x.P.length ∧ x.P.length ≤ 253
  · rw [if_pos hc] at hif ⊢
    obtain ⟨g, c, he, ho⟩ := hif
    exact ⟨_, _, _, he, ho.bys (putL_by (f := ⟨x.id, x.u, 0, x.P⟩) ⟨h.1, h.2.1, hc.1, hc.2, h.2.2.1.by'⟩), hb⟩
  · rw [if_neg hc] at hif ⊢
    exact ⟨_, _, _, hif, Bys.nil _ _, hb⟩
def CutU (w : World) (L : List Nat) (e : Ending) (w' : World) : Prop :=
  ∃ (A : List Ad) (R : List Nat) (a : Option Addr) (c : Nat), e = .returned (.tuple #[.slice a A.length c, .int .i64 ((fba A).length : Int), .int .i64 (firstE R : Nat)]) ∧ L = fba A ++ R ∧ firstN R = 0 ∧ Ads w' a A.length A ∧ (∀ x ∈ A, (tf x).ok) ∧ Below w.heap.size w w'
theorem fba_ad (F : List Fd) : fba (F.map Fd.ad) = fb F := by
  unfold fba fb
  rw [List.map_map, List.flatMap_map]
  rfl
theorem cut_u (a : Option Addr) (len cap : Nat) (L : List Nat) (w : World) (h : ArgB w a len cap L) (hn : len ≤ 100000) : Calls Try.prog 13 #[.slice a len cap] w (CutU w L) := by
  refine (cut_any a len cap L w h.row h.le h.mx hn).mono ?_
  rintro e w1 ⟨F, R, v, rfl, hL, hN, ho, hl, hb⟩
  obtain ⟨a', c, rfl, hads, _, _, _⟩ := own_ads ho hl
  refine ⟨F.map Fd.ad, R, a', c, by rw [List.length_map, fba_ad], by rw [fba_ad]; exact hL, hN, by rw [List.length_map]; exact hads, ?_, hb⟩
  intro x hx
  obtain ⟨f, hf, rfl⟩ := List.mem_map.1 hx
  exact (hl f hf).1
theorem rcut_u (a : Option Addr) (len cap : Nat) (L : List Nat) (w : World) (h : ArgB w a len cap L) (hn : len ≤ 100000) : Calls Try.prog 14 #[.slice a len cap] w (CutU w L) := by
  refine (rcut_any a len cap L w h.row h.le h.mx hn).mono ?_
  rintro e w1 ⟨A, R, v, rfl, hL, hN, ho, hl, hb⟩
  obtain ⟨a', c, rfl, hads, _, _, _⟩ := own_avl ho (fun x hx => (hl x hx).ok)
  exact ⟨A, R, a', c, rfl, hL, hN, hads, fun x hx => by obtain ⟨_, _, _, h3, _⟩ := hl x hx; exact h3, hb⟩
theorem cut_same {A B : List Ad} {R S : List Nat} (h : fba A ++ R = fba B ++ S) (hA : ∀ x ∈ A, (tf x).ok) (hB : ∀ x ∈ B, (tf x).ok) (hR : firstN R = 0) (hS : firstN S = 0) : A.map dt = B.map dt ∧ R = S := by
  have := cut_unique (F := A.map tf) (G := B.map tf) h (by intro f hf; obtain ⟨x, hx, rfl⟩ := List.mem_map.1 hf; exact hA x hx) (by intro f hf; obtain ⟨x, hx, rfl⟩ := List.mem_map.1 hf; exact hB x hx) hR hS
  rwa [dt_tf, dt_tf] at this
set_option maxRecDepth 100000 in
set_option maxHeartbeats 8000000 in
theorem tells_any (x : Ad) (a : Option Addr) (len cap : Nat) (L : List Nat) (w : World) (hx : x.ok w) (h : ArgB w a len cap L) :
    Calls Try.prog 3 #[.agg #[.int .u16 (x.id : Int), .int .u8 (x.u : Int), .slice x.s x.n x.c], .slice a len cap] w (TrueP w) := by
  have hle := h.mx
  have hlc := h.le
  unfold maxLen at hle
  have H := Lib.hid h
  have X := Lib.hid hx
  clear h hx
  obtain ⟨o, ho⟩ : ∃ o, o = Obj.cells #[.int .u16 (x.id : Int), .int .u8 (x.u : Int), .slice x.s x.n x.c] 25 (0, 0) := ⟨_, rfl⟩
  have b0 : Below w.heap.size w (w.alloc (.cells #[.int .u16 (x.id : Int), .int .u8 (x.u : Int), .slice x.s x.n x.c] 25 (0, 0))) := alB _ _
  have hbk0 := heap_alloc_new w (.cells #[.int .u16 (x.id : Int), .int .u8 (x.u : Int), .slice x.s x.n x.c] 25 (0, 0))
  have hz0 : (w.alloc (.cells #[.int .u16 (x.id : Int), .int .u8 (x.u : Int), .slice x.s x.n x.c] 25 (0, 0))).heap.size = w.heap.size + 1 := by simp
  have B0 := Lib.hid b0
  have BK0 := Lib.hid hbk0
  have Z0 := Lib.hid hz0
  clear b0 hbk0 hz0 ho o
  go_enter Try.func3, Try.ntmps3
  go_wp2_with fail
  refine (head_any _).mono ?_
  rintro e w1 ⟨rfl, b1⟩
  have bk1 := (b1.block w.heap.size (by rw [Z0.out]; omega)).trans BK0.out
  have hB1 := B0.out.trans (b1.mono (by rw [Z0.out]; omega))
  have s1 : w.heap.size < w1.heap.size := blk_lt bk1
  have B1 := Lib.hid hB1
  have BK1 := Lib.hid bk1
  obtain ⟨c0, c1, c2, f0, f1, f2⟩ := cells3 bk1
  clear b1 bk1 hB1 B0 BK0 Z0
  by_cases hbig : 20000 < len
  · have d1 : decide ((20000 : Int) < (len : Int)) = true := by simp; omega
    go_wp2_with fail
    go_ret
    exact ⟨rfl, B1.out⟩
  have d1 : decide ((20000 : Int) < (len : Int)) = false := by simp; omega
  have X1 := X.out.below B1.out
  have hnew : Ads (w1.alloc (.cells #[.int .u16 (x.id : Int), .int .u8 (x.u : Int), .slice x.s x.n x.c] 25 (0, 0))) (some ⟨w1.heap.size, 0, none⟩) 1 [x] := by
    refine ⟨rfl, by unfold maxLen; omega, fun i hi => ?_, .inr ⟨w1.heap.size, 0, rfl, by simp, fun i hi j hj => ?_⟩⟩
    · obtain rfl : i = 0 := by omega
      exact X1.below (alB _ _)
    · obtain rfl : i = 0 := by omega
      rw [show 0 + 0 * 3 + j = j by omega, cell_new]
      rcases (by omega : j = 0 ∨ j = 1 ∨ j = 2) with rfl | rfl | rfl <;> rfl
  have NW := Lib.hid hnew
  clear X1 hnew
  go_wp2_with fail
  refine (great_any _ 1 1 [x] _ NW.out).mono ?_
  rintro e w2 ⟨r, rfl, _, b2⟩
  have hB2 := B1.out.trans (((alB w1 _).trans (b2.mono (by simp))).mono (Nat.le_of_lt s1))
  have bk2 := (b2.block w.heap.size (by simp; omega)).trans ((low_of (alB w1 _) BK1.out))
  have B2 := Lib.hid hB2
  have BK2 := Lib.hid bk2
  clear b2 hB2 bk2 B1 BK1 c0 c1 c2 f0 f1 f2 NW
  cases r with
  | true =>
    go_wp2_with fail
    go_ret
    exact ⟨rfl, B2.out⟩
  | false =>
  go_wp2_with fail
  refine (first_u a len cap L w2 (H.out.below B2.out)).mono ?_
  rintro e w3 ⟨Y, rfl, hy, hyd, b3⟩
  have al4 := alB w3 (.cells #[.int .u16 (Y.id : Int), .int .u8 (Y.u : Int), .slice Y.s Y.n Y.c] 25 (0, 0))
  have bk3 := (b3.block w.heap.size (blk_lt BK2.out)).trans BK2.out
  have B3 := Lib.hid ((B2.out.trans (b3.mono B2.out.size)).trans (al4.mono (B2.out.trans (b3.mono B2.out.size)).size))
  have BK3 := Lib.hid (low_of al4 bk3)
  have YK3 := Lib.hid (heap_alloc_new w3 (.cells #[.int .u16 (Y.id : Int), .int .u8 (Y.u : Int), .slice Y.s Y.n Y.c] 25 (0, 0)))
  have YO3 := Lib.hid (hy.below al4)
  have YD := Lib.hid hyd
  have s3 := blk_lt bk3
  have hz3 : (w3.alloc (.cells #[.int .u16 (Y.id : Int), .int .u8 (Y.u : Int), .slice Y.s Y.n Y.c] 25 (0, 0))).heap.size = w3.heap.size + 1 := by simp
  have Z3 := Lib.hid hz3
  have F3 := Lib.hid (rfirst_u a len cap L _ (H.out.below B3.out))
  clear al4 bk3 hy hyd b3 hz3 B2 BK2
  go_wp2_with fail
  refine F3.out.mono ?_
  rintro e w4 ⟨V, rfl, hv, hvd, b4⟩
  obtain ⟨z3, hz3⟩ : ∃ z, z = w3.heap.size := ⟨_, rfl⟩
  rw [← hz3] at s3 ⊢
  have al4 := alB w4 (.cells #[.int .u16 (V.id : Int), .int .u8 (V.u : Int), .slice V.s V.n V.c] 25 (0, 0))
  have b5 := b4.trans (al4.mono b4.size)
  have B4 := Lib.hid (B3.out.trans (b5.mono B3.out.size))
  have BK4 := Lib.hid (low_of b5 BK3.out)
  have YK4 : Hid ((w4.alloc (.cells #[.int .u16 (V.id : Int), .int .u8 (V.u : Int), .slice V.s V.n V.c] 25 (0, 0))).heap[z3]? = some (.cells #[.int .u16 (Y.id : Int), .int .u8 (Y.u : Int), .slice Y.s Y.n Y.c] 25 (0, 0))) := Lib.hid (by rw [hz3]; exact low_of b5 YK3.out)
  have YO4 := Lib.hid (YO3.out.below b5)
  have VK4 := Lib.hid (heap_alloc_new w4 (.cells #[.int .u16 (V.id : Int), .int .u8 (V.u : Int), .slice V.s V.n V.c] 25 (0, 0)))
  have VO4 := Lib.hid (hv.below al4)
  have VD := Lib.hid hvd
  have s4 : z3 < w4.heap.size := Nat.lt_of_lt_of_le (by rw [Z3.out, hz3]; exact Nat.lt_succ_self _) b4.size
  have hz4 : (w4.alloc (.cells #[.int .u16 (V.id : Int), .int .u8 (V.u : Int), .slice V.s V.n V.c] 25 (0, 0))).heap.size = w4.heap.size + 1 := by simp
  have Z4 := Lib.hid hz4
  have F4 := Lib.hid (cut_u a len cap L _ (H.out.below B4.out) (by omega))
  clear al4 b5 hv hvd b4 hz4 hz3 B3 BK3 YK3 YO3 F3 Z3
  go_wp2_with fail
  refine F4.out.mono ?_
  rintro e w5 ⟨A, R, aa, ac, rfl, hL, hN, hads, hok, b5⟩
  obtain ⟨z4, hz4⟩ : ∃ z, z = w4.heap.size := ⟨_, rfl⟩
  rw [← hz4] at s4 ⊢
  have B5 := Lib.hid (B4.out.trans (b5.mono B4.out.size))
  have BK5 := Lib.hid (low_of b5 BK4.out)
  have YK5 := Lib.hid (low_of b5 YK4.out)
  have VK5 : Hid (w5.heap[z4]? = some (.cells #[.int .u16 (V.id : Int), .int .u8 (V.u : Int), .slice V.s V.n V.c] 25 (0, 0))) := Lib.hid (by rw [hz4]; exact low_of b5 VK4.out)
  have YO5 := Lib.hid (YO4.out.below b5)
  have VO5 := Lib.hid (VO4.out.below b5)
  have AA5 := Lib.hid hads
  have F5 := Lib.hid (rcut_u a len cap L _ (H.out.below B5.out) (by omega))
  have HL5 := Lib.hid hL
  have HN5 := Lib.hid hN
  have HO5 := Lib.hid hok
  clear b5 hz4 B4 BK4 YK4 YO4 VK4 VO4 F4 Z4 hL hN hads hok
  go_wp2_with fail
  refine F5.out.mono ?_
  rintro e w6 ⟨B, S, ba, bc, rfl, hL, hN, hads, hok, b6⟩
  have hcs := cut_same (HL5.out.symm.trans hL) HO5.out hok HN5.out hN
  obtain ⟨hdt, rfl⟩ := hcs
  have hlen : B.length = A.length := by have := congrArg List.length hdt; simpa using this.symm
  have hfl : (fba B).length = (fba A).length := by
    have h1 := congrArg List.length (HL5.out.symm.trans hL)
    rw [List.length_append, List.length_append] at h1
    omega
  rw [hlen] at hads ⊢
  rw [hfl]
  have B6 := Lib.hid (B5.out.trans (b6.mono B5.out.size))
  have BK6 := Lib.hid (low_of b6 BK5.out)
  have YK6 := Lib.hid (low_of b6 YK5.out)
  have VK6 := Lib.hid (low_of b6 VK5.out)
  have YO6 := Lib.hid (YO5.out.below b6)
  have VO6 := Lib.hid (VO5.out.below b6)
  have XO6 := Lib.hid (X.out.below B6.out)
  have AA6 := Lib.hid (AA5.out.below b6)
  have BB6 := Lib.hid hads
  have HDT := Lib.hid hdt
  clear b6 hL hN hads hok hlen hfl hdt B5 BK5 YK5 VK5 YO5 VO5 F5 AA5 HL5 HN5 HO5
  have hks : ∀ w', Gd w6 w' → w'.cell? ⟨w.heap.size, 0, none⟩ = some (.int .u16 (x.id : Int)) ∧ w'.cell? ⟨w.heap.size, 1, none⟩ = some (.int .u8 (x.u : Int)) ∧ w'.cell? ⟨w.heap.size, 2, none⟩ = some (.slice x.s x.n x.c) ∧ w'.cell? ⟨z3, 0, none⟩ = some (.int .u16 (Y.id : Int)) ∧ w'.cell? ⟨z3, 1, none⟩ = some (.int .u8 (Y.u : Int)) ∧ w'.cell? ⟨z3, 2, none⟩ = some (.slice Y.s Y.n Y.c) ∧ w'.cell? ⟨z4, 0, none⟩ = some (.int .u16 (V.id : Int)) ∧ w'.cell? ⟨z4, 1, none⟩ = some (.int .u8 (V.u : Int)) ∧ w'.cell? ⟨z4, 2, none⟩ = some (.slice V.s V.n V.c) := by
    intro w' g
    obtain ⟨x0, x1, x2, _⟩ := cells3 (low_of g BK6.out)
    obtain ⟨y0, y1, y2, _⟩ := cells3 (low_of g YK6.out)
    obtain ⟨v0, v1, v2, _⟩ := cells3 (low_of g VK6.out)
    exact ⟨x0, x1, x2, y0, y1, y2, v0, v1, v2⟩
  have KS := Lib.hid hks
  have g0 : Gd w6 w6.drew := (Below.refl _ _).drew
  obtain ⟨SX, hSX⟩ : ∃ S, S = strN (putD x) := ⟨_, rfl⟩
  have HSX := Lib.hid hSX
  have P15 := Lib.hid (fun (w' : World) (g : Gd w6 w') => show Calls Try.prog 15 #[.agg #[.int .u16 (x.id : Int), .int .u8 (x.u : Int), .slice x.s x.n x.c]] w' (PutU w' x) from (put_any x.id x.u x.s x.n x.c x.P w' (XO6.out.below g).2.2.1 X.out.1 X.out.2.1).mono fun e w'' hP => put_u x w' w X.out e w'' hP)
  have P16 := Lib.hid (fun (w' : World) (g : Gd w6 w') => show Calls Try.prog 16 #[.agg #[.int .u16 (x.id : Int), .int .u8 (x.u : Int), .slice x.s x.n x.c]] w' (PutU w' x) from (rput_any x.id x.u x.s x.n x.c x.P w' (XO6.out.below g).2.2.1 X.out.1 X.out.2.1).mono fun e w'' hP => put_u x w' w X.out e w'' hP)
  have P17 := Lib.hid (fun (w' : World) (g : Gd w6 w') => same_ad Y V w' (YO6.out.below g) (VO6.out.below g) (YD.out.trans VD.out.symm))
  have P18 := Lib.hid (fun (w' : World) (g : Gd w6 w') => same_all aa ba A.length ac bc A B w' (AA6.out.below g) (BB6.out.below g) HDT.out)
  have s6 := B6.out.size
  clear hks hSX BK6 YK6 VK6 YO6 VO6 XO6 AA6 BB6 HDT YD VD X H
  generalize firstN L = fN
  generalize firstE L = fE
  generalize firstE R = fR
  generalize (fba A).length = fL
  obtain ⟨xi, xu, xs, xn, xc, xP⟩ := x
  obtain ⟨yi, yu, ys, yn, yc, yP⟩ := Y
  obtain ⟨vi, vu, vs, vn, vc, vP⟩ := V
  simp only at KS P15 P16 P17 HSX ⊢
  go_wp2_with fail
  go_region_held (fun w' => w'.cell? ⟨w.heap.size, 0, none⟩ = some (.int .u16 (xi : Int)) ∧ w'.cell? ⟨w.heap.size, 1, none⟩ = some (.int .u8 (xu : Int)) ∧ w'.cell? ⟨w.heap.size, 2, none⟩ = some (.slice xs xn xc) ∧ w'.cell? ⟨z3, 0, none⟩ = some (.int .u16 (yi : Int)) ∧ w'.cell? ⟨z3, 1, none⟩ = some (.int .u8 (yu : Int)) ∧ w'.cell? ⟨z3, 2, none⟩ = some (.slice ys yn yc) ∧ w'.cell? ⟨z4, 0, none⟩ = some (.int .u16 (vi : Int)) ∧ w'.cell? ⟨z4, 1, none⟩ = some (.int .u8 (vu : Int)) ∧ w'.cell? ⟨z4, 2, none⟩ = some (.slice vs vn vc)) (first | exact KS.out _ (by assumption) | go_keep) (first
    | (go_at_call 15; refine (P15.out _ g0).mono ?_; rintro e w15 ⟨pa, pn, pc, rfl, pf, q15⟩; have g15 : Gd w6 w15 := Gd.step g0 q15; have PF := Lib.hid pf; have hz4 := conv_bys (cap := pc) pf; rw [← HSX.out] at hz4; clear q15 pf)
    | (go_at_call 16; refine (P16.out _ g15).mono ?_; rintro e w16 ⟨ra, rn, rc, rfl, rf, q16⟩; have g16 : Gd w6 w16 := Gd.step g15 q16; have hz6 := conv_bys (cap := rc) rf; rw [← HSX.out] at hz6; have hz5 := conv_bys (cap := pc) (PF.out.below q16); rw [← HSX.out] at hz5; clear rf q16)
    | (go_at_call 17; refine (P17.out _ g16).mono ?_; rintro e w17 ⟨rfl, q17⟩; have g17 : Gd w6 w17 := Gd.step g16 q17; clear q17)
    | (go_at_call 18; refine (P18.out _ g17).mono ?_; rintro e w18 ⟨rfl, q18⟩; have g18 : Gd w6 w18 := Gd.step g17 q18; clear q18))
  all_goals
    go_wp2_with fail
    go_ret
    exact ⟨rfl, B6.out.trans (Below.mono g18 s6)⟩
end Go.Proofs.Ytnihgpaandodjaa
