/- What stands at all places. -/
import Derived.Test.YtdolgpogjnfpkaaKh
namespace Go.Proofs.Ytdolgpogjnfpkaa
set_option linter.unusedVariables false
set_option linter.unusedSimpArgs false
open Go.ChangeShapes Go.WideShapes Go.ChangeAt Go.RowKit

theorem own_formW {B : Nat} {w : World} {v : Value} {n : Nat} {L : List Value} (h : w.ownsRow B 34 1 v n L) : ∃ a c, v = .slice a n c := by
  rcases h.2 with ⟨h, h0⟩ | ⟨g, cap, cur, h, _⟩
  · exact ⟨none, 0, by rw [h, h0]⟩
  · exact ⟨_, _, h⟩
/-- The rows ahead of the k-th. -/
def allK (R : Nat → List Nat) : Nat → List Nat
  | 0 => []
  | k + 1 => allK R k ++ R k
theorem take_snocN (V : List Nat) (k : Nat) (h : k < V.length) : V.take (k + 1) = V.take k ++ [V.getD k 0] := by
  rw [List.take_add_one, List.getElem?_eq_getElem h]
  simp [List.getD, List.getElem?_eq_getElem h]
theorem allK_wd {R : Nat → List Nat} (h : ∀ k, k < 4 → ∀ v ∈ R k, v < 65536) : ∀ k, k ≤ 4 → ∀ v ∈ allK R k, v < 65536
  | 0, _, v, hv => by simp [allK] at hv
  | k + 1, hk, v, hv => by
    rcases List.mem_append.1 hv with q | q
    · exact allK_wd h k (by omega) v q
    · exact h k (by omega) v q
theorem allK_le {R : Nat → List Nat} (h : ∀ k, k < 4 → (R k).length ≤ 256) : ∀ k, k ≤ 4 → (allK R k).length ≤ 256 * k
  | 0, _ => by simp [allK]
  | k + 1, hk => by
    have := allK_le h k (by omega)
    have := h k (by omega)
    simp only [allK, List.length_append]
    omega
def AllP (w : World) (V : List Nat) (e : Ending) (w' : World) : Prop := ∃ a n c, e = .returned (.slice a n c) ∧ ArgW w' a n c V ∧ Below w.heap.size w w'
set_option maxRecDepth 100000 in
set_option maxHeartbeats 8000000 in
theorem all_any {B : Nat} {w : World} {p : Nat} {s : Nat → Nat} {R : Nat → List Nat} (h : Bn B w p s R) :
    Calls Try.prog 22 #[.pointer (some ⟨p, 0, none⟩)] w (AllP w (allK R 4)) := by
  obtain ⟨P, hP⟩ : ∃ P, P = (AllP w (allK R 4) : Ending → World → Prop) := ⟨_, rfl⟩
  rw [← hP]
  have H := Lib.hid h
  have FIN : Hid (∀ W v n, n = (allK R 4).length → W.ownsRow w.heap.size 34 1 v n (wv (allK R 4)) → Below w.heap.size w W → P (.returned v) W) := Lib.hid (fun W v n hn ho hb => by
    subst hn
    obtain ⟨a, c, rfl, hA, _⟩ := own33_arg ho (allK_wd H.out.wd 4 (Nat.le_refl _))
    rw [hP]; exact ⟨a, _, c, rfl, hA, hb⟩)
  have LE := Lib.hid (allK_le H.out.len)
  clear h hP
  go_enter Try.func22, Try.ntmps22
  go_wp2_with fail
  go_loopw [3, 4] (fun v iv wr => ∃ (k n : Nat), k ≤ 4 ∧ iv = .int .i64 k ∧ n = (allK R k).length ∧ wr.ownsRow w.heap.size 34 1 v n (wv (allK R k)) ∧ Below w.heap.size w wr) (fun _ iv _ => 4 - (intOf iv).toNat)
  case atStart => exact ⟨0, 0, Nat.zero_le _, rfl, rfl, ownw_none, Below.refl _ _⟩
  case round =>
    obtain ⟨wo, rfl⟩ : ∃ wo : World, wo = wr := ⟨_, rfl⟩
    obtain ⟨k, n, hk, rfl, hn, ho, hb⟩ := hrel
    by_cases hk4 : k < 4
    · have hk1 : (k : Int) < 4 := by omega
      obtain ⟨va, vc, rfl⟩ := own_formW ho
      have HN := Lib.hid hn
      have HO := Lib.hid ho
      have HB := Lib.hid hb
      have SZ := Lib.hid (fun W (hb : Below w.heap.size w W) => size_any (H.out.below hb) (k : Int))
      have hsz : szB R (k : Int) = (R k).length := by unfold szB; rw [if_pos (by omega)]; simp
      rw [hsz] at SZ
      have hl := H.out.len k hk4
      clear hn ho hb hsz
      go_wp2_with fail
      go_loopw [3, 5] (fun v iv wr => ∃ (i m : Nat), i ≤ (R k).length ∧ iv = .int .i64 i ∧ m = n + i ∧ wr.ownsRow w.heap.size 34 1 v m (wv (allK R k ++ (R k).take i)) ∧ Below w.heap.size w wr) (fun _ iv _ => (R k).length - (intOf iv).toNat)
      case atStart => exact ⟨0, n, Nat.zero_le _, rfl, rfl, by simpa using HO.out, HB.out⟩
      case round =>
        obtain ⟨wi, rfl⟩ : ∃ wo : World, wo = wr := ⟨_, rfl⟩
        obtain ⟨i, m, hi, rfl, hm, ho, hb⟩ := hrel
        obtain ⟨xa, xc, rfl⟩ := own_formW ho
        have HO2 := Lib.hid ho
        have HB2 := Lib.hid hb
        have HM := Lib.hid hm
        clear ho hb hm
        go_wp2_with fail
        refine (SZ.out wi HB2.out).mono ?_
        rintro e wx ⟨rfl, rfl⟩
        obtain ⟨q, hq⟩ : ∃ q, q = (R k).length := ⟨_, rfl⟩
        have HQ := Lib.hid hq
        rw [← hq] at hi hl ⊢
        clear hq
        by_cases hiq : i < q
        · have i3 : (i : Int) < 300 := by omega
          have i4 : (i : Int) < (q : Int) := by omega
          have p1 : plB R (k : Int) (i : Int) 1 = true := by unfold plB; have := HQ.out; simp; omega
          have AT := at_any (H.out.below HB2.out) (k : Int) (i : Int) (by omega)
          unfold AtP at AT
          rw [show atB R (k : Int) (i : Int) = (R k).getD i 0 by unfold atB; rw [p1]; simp, p1] at AT
          have hts := take_snocN (R k) i (by have := HQ.out; omega)
          have hv := wgetD_lt (H.out.wd k hk4) i
          generalize (R k).getD i 0 = v at AT hts hv
          have HTS := Lib.hid hts
          have HA := Lib.hid AT
          clear p1 hts AT
          have hmle : m ≤ 2000 := by have := HM.out; have := HN.out; have := LE.out k (by omega); omega
          go_wp2_with fail
          refine HA.out.mono ?_
          rintro e wy ⟨rfl, rfl⟩
          have al := alloc_bq wy (.cells (wv [v]).toArray 34 (0, 0))
          have OA := Lib.hid (own33_keep HO2.out (fun b _ hb => (al.block b hb)))
          have BA := Lib.hid (HB2.out.trans (al.mono HB2.out.size))
          have WA := Lib.hid (argw_new wy [v] (by simp) (by intro b hb; simp at hb; omega)).row
          clear al
          go_wp2_with (at_builtin; refine wpList_append_wds rfl (.tmp 30) (.tmp 32) rfl w.heap.size _ BA.out.size _ m (allK R k ++ (R k).take i) rfl OA.out (some ⟨wy.heap.size, 0, none⟩) 1 1 [v] rfl WA.out (fun e => by cases e) (by omega) ?_)
          intro v4 w4 ho4 hg4 _ _
          have B4 := Lib.hid (BA.out.grown hg4 BA.out.size (fun q hq => (World.ownsRow.lt OA.out q hq).1))
          have O4 : Hid (w4.ownsRow w.heap.size 34 1 v4 (m + 1) (wv (allK R k ++ (R k).take (i + 1)))) := Lib.hid (by rw [HTS.out]; exact ho4)
          clear ho4 hg4
          go_wp2_with fail
          go_roundw
          case rel => exact ⟨i + 1, m + 1, by have := HQ.out; omega, by go_num, by have := HM.out; omega, O4.out, B4.out⟩
          case measure => have := HQ.out; simp [intOf]; omega
        · have hk' : i = q := by omega
          subst hk'
          have O4 : Hid (wx.ownsRow w.heap.size 34 1 (.slice xa m xc) m (wv (allK R (k + 1)))) := Lib.hid (by
            have := HO2.out
            rw [List.take_of_length_le (by have := HQ.out; omega)] at this
            exact this)
          have hm2 : m = (allK R (k + 1)).length := by have := HM.out; have := HN.out; have := HQ.out; simp only [allK, List.length_append]; omega
          have HM2 := Lib.hid hm2
          clear hm2
          go_wp2_with fail
          go_roundw
          case rel => exact ⟨k + 1, m, by omega, by go_num, HM2.out, O4.out, HB2.out⟩
          case measure => simp [intOf]; omega
    · have hk' : k = 4 := by omega
      subst hk'
      have F := Lib.hid (FIN.out wo _ n hn ho hb)
      clear ho hb hn
      go_wp2_with fail
      exact F.out
end Go.Proofs.Ytdolgpogjnfpkaa
