/- The document's: a word of bytes, an exception. -/
import Derived.Test.YtdolgpogjnfpkaaSv19
namespace Go.Proofs.Ytdolgpogjnfpkaa
set_option linter.unusedVariables false
set_option linter.unusedSimpArgs false
open Go.ChangeShapes Go.WideShapes Go.ChangeAt Go.RowKit

def atN (L : List Nat) (i : Nat) : Nat := if L.length ≤ i + 1 then 0 else 256 * L.getD i 0 + L.getD (i + 1) 0
theorem atN_lt {L : List Nat} (h : ∀ b ∈ L, b < 256) (i : Nat) : atN L i < 65536 := by
  have h0 := getD_lt h i
  have h1 := getD_lt h (i + 1)
  unfold atN
  split <;> omega
def IntB (w : World) (x : Int) (e : Ending) (w' : World) : Prop := e = .returned (.int .i64 x) ∧ Below w.heap.size w w'
set_option maxRecDepth 100000 in
set_option maxHeartbeats 4000000 in
theorem atD_any (a : Option Addr) (n c : Nat) (L : List Nat) (i : Nat) (w : World) (h : Bys w a n L) (hn : n ≤ 100000) (hi : i ≤ 100000) :
    Calls Try.prog 64 #[.slice a n c, .int .i64 (i : Int)] w (IntB w (atN L i : Nat)) := by
  have hln := h.ln
  have hwr : IntKind.i64.wrap ((i : Int) + 1) = (i : Int) + 1 := IntWalk.i64_in _ (by omega)
  by_cases hin : i + 1 < n
  · obtain ⟨b, off, rfl, hbl, hc⟩ := h.pos (by omega)
    have c0 := hc i (by omega)
    have c1 := hc (i + 1) hin
    have l0 := getD_lt h.by' i
    have l1 := getD_lt h.by' (i + 1)
    have e : atN L i = 256 * L.getD i 0 + L.getD (i + 1) 0 := by unfold atN; rw [if_neg (by omega)]
    rw [e]
    clear e
    generalize L.getD i 0 = x at *
    generalize L.getD (i + 1) 0 = y at *
    obtain ⟨P, hP⟩ : ∃ P, P = (IntB w ((256 * x + y : Nat) : Int) : Ending → World → Prop) := ⟨_, rfl⟩
    rw [← hP]
    have FIN : Hid (P (.returned (.int .i64 (256 * (x : Int) + (y : Int)))) w.drew) := Lib.hid (by
      rw [hP]; exact ⟨by push_cast; rfl, (Below.refl _ _).drew⟩)
    have t1 : ¬ ((n : Int) ≤ (i : Int) + 1) := by omega
    have t2 : (i : Int) < (n : Int) := by omega
    have t3 : (i : Int) + 1 < (n : Int) := by omega
    have e2 : IntKind.i64.wrap (256 * (x : Int)) = 256 * (x : Int) := IntWalk.i64_in _ (by omega)
    have e3 : IntKind.i64.wrap (256 * (x : Int) + (y : Int)) = 256 * (x : Int) + (y : Int) := IntWalk.i64_in _ (by omega)
    clear hP h hc hbl hln
    go_enter Try.func64, Try.ntmps64
    go_wp2_with fail
    go_region
    all_goals
      go_wp2_with fail
      exact FIN.out
  · have e : atN L i = 0 := by unfold atN; rw [if_pos (by omega)]
    rw [e]
    obtain ⟨P, hP⟩ : ∃ P, P = (IntB w ((0 : Nat) : Int) : Ending → World → Prop) := ⟨_, rfl⟩
    rw [← hP]
    have FIN : Hid (P (.returned (.int .i64 0)) w) := Lib.hid (by rw [hP]; exact ⟨rfl, Below.refl _ _⟩)
    have t1 : (n : Int) ≤ (i : Int) + 1 := by omega
    clear hP h e hln
    go_enter Try.func64, Try.ntmps64
    go_wp2_with fail
    exact FIN.out
set_option maxRecDepth 100000 in
set_option maxHeartbeats 4000000 in
theorem alarmD_any (a : Option Addr) (n c : Nat) (D : List Nat) (code : Nat) (hc1 : 1 ≤ code) (hc4 : code ≤ 4) (w : World) (h : Bys w a n D) :
    Calls Try.prog 24 #[.slice a n c, .int .i64 (code : Int)] w (OutP w [D.getD 0 0 ||| 128, code]) := by
  obtain ⟨P, hP⟩ : ∃ P, P = (OutP w [D.getD 0 0 ||| 128, code] : Ending → World → Prop) := ⟨_, rfl⟩
  rw [← hP]
  have hln := h.ln
  have l0 := getD_lt h.by' 0
  have FIN : Hid (∀ x : Nat, x = D.getD 0 0 → P (.returned (.slice (some ⟨w.heap.size, 0, none⟩) 2 2)) (w.alloc (.cells #[.int .u8 ((x ||| 128 : Nat) : Int), .int .u8 (code : Int)] 5 (0, 0)))) := Lib.hid (by
    intro x hx
    rw [hP]
    refine ⟨_, rfl, ⟨rfl, .inr ⟨w.heap.size, 2, #[.int .u8 ((x ||| 128 : Nat) : Int), .int .u8 (code : Int)], rfl, Nat.le_refl _, heap_alloc_new _ _, Nat.le_refl _, by unfold maxLen; omega, rfl, by rw [hx]; rfl⟩⟩, (Below.refl _ _).alloc (Nat.le_refl _) _⟩)
  have c2 : IntKind.u8.wrap (code : Int) = (code : Int) := by simp [IntKind.wrap, IntKind.bits, IntKind.signed]; omega
  have k1 : ¬ ((code : Int) < 1) := by omega
  have k2 : ¬ ((4 : Int) < (code : Int)) := by omega
  by_cases hn : n = 0
  · subst hn
    have hD : D.getD 0 0 = 0 := by rw [List.eq_nil_of_length_eq_zero hln]; rfl
    rw [hD] at FIN
    have F0 := Lib.hid (FIN.out 0 rfl)
    clear hP h hln hD FIN l0
    go_enter Try.func24, Try.ntmps24
    go_wp2_with fail
    have e0 : Go.bits BinOp.or IntKind.u8 0 128 = ((0 ||| 128 : Nat) : Int) := or128 0 (by omega)
    rw [e0]
    exact F0.out
  · have hor := or128 (D.getD 0 0) l0
    obtain ⟨b, off, rfl, hbl, hcc⟩ := h.pos (by omega)
    have c0 : w.cell? ⟨b, off, none⟩ = some (.int .u8 ((D.getD 0 0 : Nat) : Int)) := hcc 0 (by omega)
    have d0 : (0 : Int) < (n : Int) := by omega
    generalize D.getD 0 0 = x at c0 hor FIN l0
    have F0 := Lib.hid (FIN.out x rfl)
    clear hP h hln hcc FIN
    go_enter Try.func24, Try.ntmps24
    go_wp2_with fail
    exact F0.out
end Go.Proofs.Ytdolgpogjnfpkaa
/- The document's: the words of bytes, and the bits. -/
namespace Go.Proofs.Ytdolgpogjnfpkaa
set_option linter.unusedVariables false
set_option linter.unusedSimpArgs false
open Go.ChangeShapes Go.WideShapes Go.ChangeAt Go.RowKit

def NewW (w : World) (V : List Nat) (e : Ending) (w' : World) : Prop := ∃ a n c, e = .returned (.slice a n c) ∧ ArgW w' a n c V ∧ (∀ b off, a = some ⟨b, off, none⟩ → w.heap.size ≤ b) ∧ Below w.heap.size w w'
def unwK (L : List Nat) (k : Nat) : List Nat := (List.range k).map (fun j => atN L (2 * j))
def unw (L : List Nat) : List Nat := unwK L (L.length / 2)
theorem unwK_succ (L : List Nat) (k : Nat) : unwK L (k + 1) = unwK L k ++ [atN L (2 * k)] := by
  simp [unwK, List.range_succ]
theorem unwK_len (L : List Nat) (k : Nat) : (unwK L k).length = k := by simp [unwK]
theorem unwK_wd {L : List Nat} (h : ∀ b ∈ L, b < 256) (k : Nat) : ∀ v ∈ unwK L k, v < 65536 := by
  intro v hv
  simp [unwK] at hv
  obtain ⟨j, _, rfl⟩ := hv
  exact atN_lt h _
theorem unb_succ (L : List Nat) (k : Nat) : unb L (k + 1) = unb L k ++ [bt L k] := by
  simp [unb, List.range_succ]
set_option maxRecDepth 100000 in
set_option maxHeartbeats 8000000 in
theorem unwD_any (a : Option Addr) (n c : Nat) (L : List Nat) (w : World) (h : Bys w a n L) (hn : n ≤ 100000) :
    Calls Try.prog 49 #[.slice a n c] w (NewW w (unw L)) := by
  obtain ⟨P, hP⟩ : ∃ P, P = (NewW w (unw L) : Ending → World → Prop) := ⟨_, rfl⟩
  rw [← hP]
  have H := Lib.hid h
  have HLN := Lib.hid h.ln
  have FIN : Hid (∀ W v k, k = L.length / 2 → W.ownsRow w.heap.size 34 1 v k (wv (unwK L k)) → Below w.heap.size w W → P (.returned v) W) := Lib.hid (fun W v k hk ho hb => by
    have ho2 : W.ownsRow w.heap.size 34 1 v (unwK L k).length (wv (unwK L k)) := by rw [unwK_len]; exact ho
    obtain ⟨a, c, rfl, hA, hnw⟩ := own33_arg ho2 (unwK_wd H.out.by' k)
    rw [hP]; unfold unw; rw [← hk]
    exact ⟨a, _, c, rfl, hA, hnw, hb⟩)
  clear h hP
  go_enter Try.func49, Try.ntmps49
  go_wp2_with fail
  go_loopw [3, 4] (fun v iv wr => ∃ k : Nat, 2 * k ≤ n ∧ iv = .int .i64 ((2 * k : Nat) : Int) ∧ wr.ownsRow w.heap.size 34 1 v k (wv (unwK L k)) ∧ Below w.heap.size w wr) (fun _ iv _ => n - (intOf iv).toNat)
  case atStart => exact ⟨0, Nat.zero_le _, rfl, ownw_none, Below.refl _ _⟩
  case round =>
    obtain ⟨wo, rfl⟩ : ∃ wo : World, wo = wr := ⟨_, rfl⟩
    obtain ⟨k, hk, rfl, ho, hb⟩ := hrel
    obtain ⟨xa, xc, rfl⟩ := own_formW ho
    have HO := Lib.hid ho
    have HB := Lib.hid hb
    obtain ⟨i, hi⟩ : ∃ i, i = 2 * k := ⟨_, rfl⟩
    rw [← hi]
    have HI := Lib.hid hi
    have hi2 : i ≤ n := by omega
    have hwr : IntKind.i64.wrap ((i : Int) + 1) = (i : Int) + 1 := IntWalk.i64_in _ (by omega)
    clear ho hb hi
    by_cases hin : i + 1 < n
    · have i1 : (i : Int) + 1 < (n : Int) := by omega
      have AT := Lib.hid (atD_any a n c L i wo (H.out.below HB.out) hn (by omega))
      have hs := unwK_succ L k
      have hv := atN_lt H.out.by' i
      rw [← HI.out] at hs
      generalize atN L i = v at AT hs hv
      have HS := Lib.hid hs
      have w2 : IntKind.u16.wrap (v : Int) = (v : Int) := by simp [IntKind.wrap, IntKind.bits, IntKind.signed]; omega
      clear hs
      go_wp2_with fail
      refine AT.out.mono ?_
      rintro e wy ⟨rfl, zy⟩
      have OY := own33_keep HO.out (fun b _ hb => (zy.block b hb))
      have BY := HB.out.trans (zy.mono HB.out.size)
      have al := alloc_bq wy (.cells (wv [v]).toArray 34 (0, 0))
      have OA := Lib.hid (own33_keep OY (fun b _ hb => (al.block b hb)))
      have BA := Lib.hid (BY.trans (al.mono BY.size))
      have WA := Lib.hid (argw_new wy [v] (by simp) (by intro b hb; simp at hb; omega)).row
      clear al OY BY zy
      go_wp2_with (at_builtin; refine wpList_append_wds rfl (.tmp 12) (.tmp 17) rfl w.heap.size _ BA.out.size _ k (unwK L k) rfl OA.out (some ⟨wy.heap.size, 0, none⟩) 1 1 [v] rfl WA.out (fun e => by cases e) (by have := HI.out; omega) ?_)
      intro v4 w4 ho4 hg4 _ _
      have B4 := Lib.hid (BA.out.grown hg4 BA.out.size (fun q hq => (World.ownsRow.lt OA.out q hq).1))
      have O4 : Hid (w4.ownsRow w.heap.size 34 1 v4 (k + 1) (wv (unwK L (k + 1)))) := Lib.hid (by rw [HS.out]; exact ho4)
      clear ho4 hg4
      go_wp2_with fail
      go_roundw
      case rel => exact ⟨k + 1, by have := HI.out; omega, by have := HI.out; subst this; go_num, O4.out, B4.out⟩
      case measure => simp [intOf]; omega
    · have i1 : ¬ ((i : Int) + 1 < (n : Int)) := by omega
      have F := Lib.hid (FIN.out wo _ k (by have := HI.out; have := HLN.out; omega) HO.out HB.out)
      clear hk
      go_wp2_with fail
      exact F.out
theorem shr_rem (x t : Nat) (hx : x < 256) : IntKind.u16.wrap (((x : Int) / 2 ^ t).tmod 2) = ((x / 2 ^ t % 2 : Nat) : Int) := by
  have e : (x : Int) / 2 ^ t = ((x / 2 ^ t : Nat) : Int) := by simp
  rw [e]
  generalize x / 2 ^ t = y
  rw [Int.tmod_eq_emod_of_nonneg (by omega)]
  simp [IntKind.wrap, IntKind.bits, IntKind.signed]
  omega
set_option maxRecDepth 100000 in
set_option maxHeartbeats 8000000 in
theorem unbD_any (a : Option Addr) (len c : Nat) (L : List Nat) (n : Nat) (w : World) (h : Bys w a len L) (hl : len ≤ 100000) (hn : n ≤ 65536) :
    Calls Try.prog 48 #[.slice a len c, .int .i64 (n : Int)] w (NewW w (unb L n)) := by
  obtain ⟨P, hP⟩ : ∃ P, P = (NewW w (unb L n) : Ending → World → Prop) := ⟨_, rfl⟩
  rw [← hP]
  have H := Lib.hid h
  have HLN := Lib.hid h.ln
  have FIN : Hid (∀ W v, W.ownsRow w.heap.size 34 1 v n (wv (unb L n)) → Below w.heap.size w W → P (.returned v) W) := Lib.hid (fun W v ho hb => by
    have ho2 : W.ownsRow w.heap.size 34 1 v (unb L n).length (wv (unb L n)) := by rw [unb_len]; exact ho
    obtain ⟨a, c, rfl, hA, hnw⟩ := own33_arg ho2 (fun v hv => by have := unb_by L n v hv; omega)
    rw [hP]
    exact ⟨a, _, c, rfl, hA, hnw, hb⟩)
  have t0 : ¬ ((65536 : Int) < (n : Int)) := by omega
  clear h hP
  go_enter Try.func48, Try.ntmps48
  go_wp2_with fail
  go_loopw [5, 6] (fun v iv wr => ∃ k : Nat, k ≤ n ∧ iv = .int .i64 (k : Int) ∧ wr.ownsRow w.heap.size 34 1 v k (wv (unb L k)) ∧ Below w.heap.size w wr) (fun _ iv _ => n - (intOf iv).toNat)
  case atStart => exact ⟨0, Nat.zero_le _, rfl, ownw_none, Below.refl _ _⟩
  case round =>
    obtain ⟨wo, rfl⟩ : ∃ wo : World, wo = wr := ⟨_, rfl⟩
    obtain ⟨k, hk, rfl, ho, hb⟩ := hrel
    obtain ⟨xa, xc, rfl⟩ := own_formW ho
    have HO := Lib.hid ho
    have HB := Lib.hid hb
    clear ho hb
    by_cases hkn : k < n
    · have d0 : (k : Int) < (n : Int) := by omega
      have hs := unb_succ L k
      have hb0 := bt_le L k
      have hbt : bt L k = L.getD (k / 8) 0 / 2 ^ (k % 8) % 2 := rfl
      generalize bt L k = v at hs hb0 hbt
      have HS := Lib.hid hs
      have HBT := Lib.hid hbt
      have al := alloc_bq wo (.cells (wv [v]).toArray 34 (0, 0))
      have OA := Lib.hid (own33_keep HO.out (fun b _ hb => (al.block b hb)))
      have BA := Lib.hid (HB.out.trans (al.mono HB.out.size))
      have WA := Lib.hid (argw_new wo [v] (by simp) (by intro b hb; simp at hb; omega)).row
      clear hs hbt al
      by_cases hj : k / 8 < len
      · obtain ⟨b, off, rfl, hbl, hc⟩ := H.out.pos (by omega)
        have hc0 := (HB.out.cell (p := ⟨b, off + k / 8, none⟩) hbl).trans (hc (k / 8) hj)
        have hx := getD_lt H.out.by' (k / 8)
        generalize L.getD (k / 8) 0 = x at hc0 hx HBT
        have i1 : (k : Int) / 8 < (len : Int) := by omega
        have sr : IntKind.u16.wrap (((x : Int) / 2 ^ (k % 8)).tmod 2) = (v : Int) := by rw [HBT.out]; exact shr_rem x (k % 8) hx
        clear hc
        go_wp2_with (at_builtin; refine wpList_append_wds rfl (.tmp 30) (.tmp 32) rfl w.heap.size _ BA.out.size _ k (unb L k) rfl OA.out (some ⟨wo.heap.size, 0, none⟩) 1 1 [v] rfl WA.out (fun e => by cases e) (by omega) ?_)
        intro v4 w4 ho4 hg4 _ _
        have B4 := Lib.hid (BA.out.grown hg4 BA.out.size (fun q hq => (World.ownsRow.lt OA.out q hq).1))
        have O4 : Hid (w4.ownsRow w.heap.size 34 1 v4 (k + 1) (wv (unb L (k + 1)))) := Lib.hid (by rw [HS.out]; exact ho4)
        clear ho4 hg4
        go_wp2_with fail
        go_roundw
        case rel => exact ⟨k + 1, by omega, by go_num, O4.out, B4.out⟩
        case measure => simp [intOf]; omega
      · have i1 : ¬ ((k : Int) / 8 < (len : Int)) := by omega
        have hv0 : v = 0 := by
          rw [HBT.out, show L.getD (k / 8) 0 = 0 by simp [List.getD, List.getElem?_eq_none (show L.length ≤ k / 8 by have := HLN.out; omega)]]
          simp
        subst hv0
        go_wp2_with (at_builtin; refine wpList_append_wds rfl (.tmp 30) (.tmp 32) rfl w.heap.size _ BA.out.size _ k (unb L k) rfl OA.out (some ⟨wo.heap.size, 0, none⟩) 1 1 [0] rfl WA.out (fun e => by cases e) (by omega) ?_)
        intro v4 w4 ho4 hg4 _ _
        have B4 := Lib.hid (BA.out.grown hg4 BA.out.size (fun q hq => (World.ownsRow.lt OA.out q hq).1))
        have O4 : Hid (w4.ownsRow w.heap.size 34 1 v4 (k + 1) (wv (unb L (k + 1)))) := Lib.hid (by rw [HS.out]; exact ho4)
        clear ho4 hg4
        go_wp2_with fail
        go_roundw
        case rel => exact ⟨k + 1, by omega, by go_num, O4.out, B4.out⟩
        case measure => simp [intOf]; omega
    · have hk' : k = n := by omega
      subst hk'
      have F := Lib.hid (FIN.out wo _ HO.out HB.out)
      clear hk
      go_wp2_with fail
      exact F.out
end Go.Proofs.Ytdolgpogjnfpkaa
