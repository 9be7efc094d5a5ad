/- A key's sum; whether it matches. -/
import Derived.Test.YtogpbclfdnijpaaDoorD
namespace Go.Proofs.YtogpbclfdnijpaaDoor
set_option linter.unusedVariables false
set_option linter.unusedSimpArgs false
open Go.ChangeShapes Go.WideShapes Go.ChangeAt Go.RowKit

def sumK (K : List Nat) : Nat → Nat
  | 0 => startN
  | t + 1 => keyRound K (sumK K t) t
def sumN (K : List Nat) : Nat := sumK K 64
def sumS (K : List Nat) : List Nat := if keyB K = true then hexF 16 (sumN K) else []
theorem sumK_lt (K : List Nat) (t : Nat) : sumK K t < modN := by
  cases t with
  | zero => exact startN_lt
  | succ t => exact fnv_lt _ _
theorem strN_app (L M : List Nat) : strN L ++ strN M = strN (L ++ M) := by
  unfold strN strOfNums
  apply ByteArray.ext
  simp
theorem rep_str (c : Nat) : (⟨(Lib.repeatL [48] c).toArray⟩ : ByteArray) = strN (List.replicate c 48) := by
  unfold strN strOfNums
  congr 2
  induction c with
  | zero => rfl
  | succ c ih => rw [Lib.repeatL, List.replicate_succ, ih]; rfl
theorem hex_all (h : Nat) (hh : h < modN) : (hexL h).length ≤ 16 ∧ List.replicate (16 - (hexL h).length) 48 ++ hexL h = hexF 16 h := hex_pad 16 h (by omega) (by unfold modN at hh; omega)
set_option maxRecDepth 100000 in
set_option maxHeartbeats 4000000 in
theorem sum_any (s : ByteArray) (w : World) (hs : s.size ≤ maxLen) (hT : TabK w) : Calls Tryd.prog 8 #[.string s] w (StrP w (sumS (sl s))) := by
  obtain ⟨P, hP⟩ : ∃ P, P = (StrP w (sumS (sl s)) : Ending → World → Prop) := ⟨_, rfl⟩
  rw [← hP]
  have HP := Lib.hid hP
  have IK := Lib.hid (fun W => isKey_any s W hs)
  cases hb : keyB (sl s) with
  | false =>
    rw [hb] at IK
    have HB := Lib.hid hb
    clear hP hb hs hT
    go_enter Tryd.func8, Tryd.ntmps8
    go_wp2_with fail
    refine (IK.out _).mono ?_
    rintro e w1 ⟨rfl, e1⟩
    rw [e1]
    go_wp2_with fail
    rw [HP.out]
    unfold sumS
    rw [if_neg (by rw [HB.out]; simp)]
    exact ⟨rfl, Below.refl _ _⟩
  | true =>
    rw [hb] at IK
    have h32 : s.size ≤ 100000 := by
      unfold keyB at hb
      rw [sl_len] at hb
      simp at hb
      omega
    have HB := Lib.hid hb
    have RA := Lib.hid (fun W => rounds_any s W)
    have RO := Lib.hid (fun W t kb pb sb h (ht : t ≤ 100000) (H : KeyS W s kb pb sb h) => round_any s t kb pb sb h W h32 ht H)
    have HT := Lib.hid (fun W (hb : Below w.heap.size w W) => hT.below hb)
    clear hP hb hs hT h32
    go_enter Tryd.func8, Tryd.ntmps8
    go_wp2_with fail
    refine (IK.out _).mono ?_
    rintro e w1 ⟨rfl, e1⟩
    rw [e1]
    clear e1
    go_wp2_with fail
    refine (RA.out _).mono ?_
    rintro e w2 ⟨kb, pb, sb, rfl, K2, hsb, z2⟩
    have HK := Lib.hid K2
    have HSB := Lib.hid hsb
    have B2 := Lib.hid z2
    clear K2 hsb z2
    go_wp2_with fail
    go_loopw [4, 12] (fun uv iv wr => ∃ t : Nat, t ≤ 64 ∧ iv = .int .i64 t ∧ (t = 64 → uv = .int .u64 ((sumN (sl s) : Nat) : Int)) ∧ KeyS wr s kb pb sb (sumK (sl s) t) ∧ Below w.heap.size w wr) (fun _ iv _ => 64 - (intOf iv).toNat)
    case atStart => exact ⟨0, by omega, rfl, fun e => by omega, HK.out, B2.out⟩
    case round =>
      obtain ⟨wo, rfl⟩ : ∃ wo : World, wo = wr := ⟨_, rfl⟩
      obtain ⟨t, ht, rfl, hu, hK, hB⟩ := hrel
      by_cases ht64 : t < 64
      · have R1 := Lib.hid (RO.out wo t kb pb sb _ (by omega) hK)
        have HBo := Lib.hid hB
        have htI : (t : Int) < 64 := by omega
        clear hK hB hu
        go_wp2_with fail
        refine R1.out.mono ?_
        rintro e w5 ⟨rfl, N5, F5⟩
        have HN5 := Lib.hid N5
        have B5 := Lib.hid (HBo.out.trans (F5.below (B := w.heap.size) (fun x hx => by simp at hx; rw [hx]; exact HSB.out) HBo.out.size))
        clear N5 F5
        obtain ⟨r, hr⟩ : ∃ r, r = keyRound (sl s) (sumK (sl s) t) t := ⟨_, rfl⟩
        have HR := Lib.hid hr
        rw [← hr] at HN5 ⊢
        clear hr
        go_wp2_with fail
        go_roundw
        case rel => exact ⟨t + 1, by omega, by go_num, (fun e => by rw [HR.out, show t = 63 by omega]; rfl), (by rw [show sumK (sl s) (t + 1) = r by rw [HR.out]; rfl]; exact HN5.out), B5.out⟩
        case measure => simp [intOf]; omega
      · obtain rfl : t = 64 := by omega
        have hu := hu rfl
        have hlt := sumK_lt (sl s) 64
        have FM := Lib.hid (fmt15 (sumN (sl s)) wo hlt (HT.out wo hB))
        obtain ⟨hl, hp⟩ := hex_all (sumN (sl s)) hlt
        have HSS : Hid (P = StrP w (List.replicate (16 - (hexL (sumN (sl s))).length) 48 ++ hexL (sumN (sl s)))) := Lib.hid (by rw [HP.out, hp]; unfold sumS; rw [if_pos HB.out])
        have HBo := Lib.hid hB
        clear hlt hp hB hK
        generalize sumN (sl s) = h at *
        subst hu
        generalize hexL h = D at *
        have hsz := strN_size D
        obtain ⟨n, hn⟩ : ∃ n, n = D.length := ⟨_, rfl⟩
        rw [← hn] at hl hsz HSS
        obtain ⟨S, hS⟩ : ∃ S, S = strN D := ⟨_, rfl⟩
        rw [← hS] at hsz
        have FM2 : Hid (Calls Tryd.prog 15 #[.int .u64 (h : Int), .int .i64 16] wo fun e w' => e = .returned (.string S) ∧ Below wo.heap.size wo w') := Lib.hid (by rw [hS]; exact FM.out)
        have HSD := Lib.hid hS
        have hn16 : ((16 : Int) - (n : Int)) = ((16 - n : Nat) : Int) := by omega
        clear FM hS hn
        go_wp2_with fail
        refine FM2.out.mono ?_
        rintro e w5 ⟨rfl, z5⟩
        have B5 := Lib.hid (HBo.out.trans (Below.mono z5 HBo.out.size))
        clear z5
        go_wp2_with fail
        obtain ⟨T, hT⟩ : ∃ T, T = strN (List.replicate (16 - n) 48) := ⟨_, rfl⟩
        have hcs : (16 - n : Nat) ≤ 16 := by omega
        have hts : T.size = 16 - n := by rw [hT, strN_size]; simp
        have RP : Hid (Calls Tryd.prog 16 #[.string ⟨#[48]⟩, .int .i64 ((16 - n : Nat) : Int)] w5 fun e w' => e = .returned (.string T) ∧ Below w5.heap.size w5 w') := Lib.hid (by
          rw [hT, ← rep_str]
          exact Tryd.strings_Repeat ⟨#[48]⟩ (16 - n) w5 (by omega) (by show 1 * (16 - n) ≤ _; omega))
        have HTS := Lib.hid hT
        have hsum := fun W : World => run_string_add_sum (P := Tryd.prog) (w := W) T S (by omega)
        clear hT hts
        refine RP.out.mono ?_
        rintro e w6 ⟨rfl, z6⟩
        have B6 := Lib.hid (B5.out.trans (Below.mono z6 B5.out.size))
        clear z6
        go_wp2_with fail
        rw [HSS.out]
        exact ⟨by rw [HTS.out, HSD.out, strN_app]; rfl, B6.out⟩
end Go.Proofs.YtogpbclfdnijpaaDoor
