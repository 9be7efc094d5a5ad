/- Who leads. -/
import Derived.Test.YteakbijlcccnnaaC
namespace Go.Proofs.Yteakbijlcccnnaa
set_option linter.unusedVariables false
open Go.ChangeShapes Go.WideShapes Go.ChangeAt Go.RowKit

def BP (w : World) (b : Bool) (e : Ending) (w' : World) : Prop := e = .returned (.bool b) ∧ Below w.heap.size w w'
theorem mem_any (s f : Bool) (x g g0 : Int) (c : Nat) (w : World) (hc : w.cell? ⟨c, 0, none⟩ = some (.int .i64 g0)) (hl : c < w.heap.size) :
    Calls Try.prog 27 #[.agg #[.bool s, .int .i64 x, .bool f, .int .i64 g], .pointer (some ⟨c, 0, none⟩)] w (BP w (s && (g == g0))) := by
  cases s with
  | false =>
    go_enter Try.func27, Try.ntmps27
    go_wp2_with fail
    go_ret
    exact ⟨rfl, alloc_b _ _⟩
  | true =>
    go_enter Try.func27, Try.ntmps27
    go_wp2_with fail
    go_ret
    exact ⟨rfl, alloc_b _ _⟩
def IxP (w : World) (b : Bool) (e : Ending) (w' : World) : Prop := (∃ r : Int, e = .returned (.int .i64 r) ∧ decide (0 ≤ r) = b) ∧ Below w.heap.size w w'
set_option maxRecDepth 100000 in
set_option maxHeartbeats 2000000 in
theorem index_any {B t m mb cn n : Nat} {w : World} {G : List Int} {S : List La} (h : Lt B w t m mb cn n G S) (ma : Option Addr) (mcap : Nat) (hma : 0 < n → ma = some ⟨mb, 0, none⟩) (g0 : Int) (c : Nat) (hc : w.cell? ⟨c, 0, none⟩ = some (.int .i64 g0)) (hl : c < w.heap.size) :
    Calls Try.prog 28 #[.slice ma n mcap, .func (.func 27) #[] #[.pointer (some ⟨c, 0, none⟩)]] w (IxP w (others G S g0 n)) := by
  have hle := h.le
  unfold maxLen at hle
  have H := Lib.hid h
  have HC := Lib.hid hc
  have HM := Lib.hid hma
  clear h hc hma
  go_enter Try.func28, Try.ntmps28
  go_wp2_with fail
  go_loopw [8] (fun i wr => ∃ k : Nat, k ≤ n ∧ i = .int .i64 k ∧ others G S g0 k = false ∧ Below w.heap.size w wr) (fun i _ => n - (intOf i).toNat)
  case atStart => exact ⟨0, Nat.zero_le _, rfl, rfl, Below.refl _ _⟩
  case round =>
    obtain ⟨wo, rfl⟩ : ∃ wo : World, wo = wr := ⟨_, rfl⟩
    obtain ⟨k, hk, rfl, hb, hbe⟩ := hrel
    by_cases hkn : k < n
    · have hO := H.out.below hbe
      obtain ⟨q0, q1, q2, q3, _, _, _⟩ := (hO.row (by omega)).cells hkn
      have hmm := HM.out (by omega)
      subst hmm
      have hst := others_succ G S g0 k
      rw [hb, Bool.false_or] at hst
      have hcc := (hbe.cell (p := ⟨c, 0, none⟩) hl).trans HC.out
      have hl2 : c < wo.heap.size := Nat.lt_of_lt_of_le hl hbe.size
      have hmem : (sg S k).st = true → gg G k = g0 → others G S g0 n = true := fun e1 e2 => (others_iff G S g0 n).2 ⟨k, hkn, e1, e2⟩
      have HA := Lib.hid (mem_any (sg S k).st false (sg S k).tm (gg G k) g0 c wo hcc hl2)
      have HS := Lib.hid hst
      have HME := Lib.hid hmem
      have BE := Lib.hid hbe
      clear hO hb hst hcc hmem hbe
      generalize (sg S k).st = s at *
      generalize (sg S k).tm = x at *
      generalize gg G k = g at *
      go_wp2_with fail
      refine HA.out.mono ?_
      rintro e w1 ⟨rfl, b1⟩
      have B1 := Lib.hid (BE.out.trans (b1.mono BE.out.size))
      clear b1
      cases hq : (s && (g == g0)) with
      | true =>
        have hp : decide ((0 : Int) ≤ (k : Int)) = others G S g0 n := by
          rw [decide_eq_true (by omega)]
          simp at hq
          exact (HME.out hq.1 hq.2).symm
        have HP := Lib.hid hp
        clear hp hq
        go_wp2_with fail
        go_ret
        exact ⟨⟨_, rfl, HP.out⟩, B1.out⟩
      | false =>
        have HQ := Lib.hid (HS.out.trans hq)
        clear hq
        go_wp2_with fail
        go_roundw
        case rel => exact ⟨k + 1, by omega, by go_num, HQ.out, B1.out⟩
        case measure => simp [intOf]; omega
    · have hk' : k = n := by omega
      subst hk'
      have HP : Hid (decide ((0 : Int) ≤ -1) = others G S g0 k) := Lib.hid (by rw [hb]; rfl)
      have BE := Lib.hid hbe
      clear hb hbe
      go_wp2_with fail
      go_ret
      exact ⟨⟨_, rfl, HP.out⟩, BE.out⟩

theorem contains_any {B t m mb cn n : Nat} {w : World} {G : List Int} {S : List La} (h : Lt B w t m mb cn n G S) (ma : Option Addr) (mcap : Nat) (hma : 0 < n → ma = some ⟨mb, 0, none⟩) (g0 : Int) (c : Nat) (hc : w.cell? ⟨c, 0, none⟩ = some (.int .i64 g0)) (hl : c < w.heap.size) :
    Calls Try.prog 26 #[.slice ma n mcap, .func (.func 27) #[] #[.pointer (some ⟨c, 0, none⟩)]] w (BP w (others G S g0 n)) := by
  have HA := Lib.hid (index_any h ma mcap hma g0 c hc hl)
  clear h hma hc hl
  go_enter Try.func26, Try.ntmps26
  go_wp2_with fail
  refine HA.out.mono ?_
  rintro e w1 ⟨⟨r, rfl, hr⟩, b1⟩
  have HR := Lib.hid hr
  have B1 := Lib.hid b1
  clear hr b1
  go_wp2_with fail
  go_ret
  exact ⟨by rw [HR.out]; rfl, B1.out⟩

set_option maxRecDepth 100000 in
set_option maxHeartbeats 2000000 in
theorem leads_any {B t m mb cn n : Nat} {w : World} {G : List Int} {S : List La} (h : Lt B w t m mb cn n G S) (k : Nat) (hk : k < n) (now : Int) :
    Calls Try.prog 25 #[.pointer (some ⟨t, 0, none⟩), .int .i64 (k : Int), .int .i64 now] w (BP w (lead G S k now)) := by
  obtain ⟨c, c0, c1, f0, f1, h1, h2, h3, q0, q1, q2, q3, g0, g1, g2⟩ := h.mem hk
  have hwg := h.wg k
  obtain ⟨lt1, lt2, lt3⟩ := h.lt
  have lt4 := lt3 (by omega)
  have H := Lib.hid h
  have hA := fun o => h.below (alloc_b w o)
  have HA := Lib.hid hA
  have HLK := Lib.hid (fun (w' : World) (hb : Below w.heap.size w w') => (h.below hb).look (gg G k) hwg)
  have hld : lead G S k now = (!(gg G k == 0) && (match fo G S (gg G k) with
    | some j => decide (k < j) && ((sg S j).tm == now)
    | none => !others G S (gg G k) G.length)) := rfl
  have hln := h.ln
  rw [hln] at hld
  cases hz : (gg G k == 0) with
  | true =>
    rw [hz] at hld
    simp at hld
    have HD := Lib.hid hld
    clear hA h hwg hln
    generalize gg G k = g at *
    clear HLK hld
    go_enter Try.func25, Try.ntmps25
    go_wp2_with fail
    go_ret
    exact ⟨by rw [HD.out]; rfl, alloc_b _ _⟩
  | false =>
    rw [hz] at hld
    simp only [Bool.not_false, Bool.true_and] at hld
    cases hf : fo G S (gg G k) with
    | none =>
      rw [hf] at hld
      simp only [] at hld
      have hlk' := HLK.out _ (alloc_b w (.cells #[.int .i64 (gg G k)] 3 (0, 0))).drew
      rw [fiV_none hf] at hlk'
      have HC := Lib.hid (contains_any (h.below (alloc_b w (.cells #[.int .i64 (gg G k)] 3 (0, 0))).drew) (some ⟨mb, 0, none⟩) c (fun _ => rfl) (gg G k) w.heap.size (by rw [World.cell?_drew]; simp only [World.cell?, heap_alloc_new]; rfl) (by simp))
      have HD := Lib.hid hld
      generalize gg G k = g at *
      generalize others G S g n = ob at *
      clear hA h hwg HLK hld hf hln
      go_enter Try.func25, Try.ntmps25
      go_wp2_with fail
      go_region
      all_goals
        go_wp2_with fail
      refine HC.out.mono ?_
      rintro e w1 ⟨rfl, b1⟩
      have B1 := Lib.hid b1
      clear b1
      go_wp2_with fail
      go_ret
      refine ⟨by rw [HD.out]; rfl, ?_⟩
      exact ((alloc_b w _).drew).trans (B1.out.mono (by simp))
    | some j =>
      rw [hf] at hld
      simp only [] at hld
      have hlk' := HLK.out _ (alloc_b w (.cells #[.int .i64 (gg G k)] 3 (0, 0))).drew
      rw [fiV_some hf] at hlk'
      have hjn : j < n := by have := (fok_some hf).1; omega
      obtain ⟨_, _, _, _, _, _, _, _, _, r1, _, _, _, _, _⟩ := h.mem hjn
      have hji : (j : Int) < (n : Int) := by omega
      have HD := Lib.hid hld
      generalize gg G k = g at *
      generalize (sg S j).tm = y at *
      clear hA h hwg HLK hld hf hln
      by_cases hkj : k < j
      · have e1 : decide (k < j) = true := by simpa using hkj
        have e2 : decide ((k : Int) < (j : Int)) = true := by simpa using hkj
        rw [e1, Bool.true_and] at HD
        go_enter Try.func25, Try.ntmps25
        go_wp2_with fail
        go_region
        all_goals
          go_wp2_with fail
          go_ret
          exact ⟨by rw [HD.out]; rfl, (alloc_b _ _).drew⟩
      · have e1 : decide (k < j) = false := by simpa using hkj
        have e2 : decide ((k : Int) < (j : Int)) = false := by simpa using hkj
        rw [e1, Bool.false_and] at HD
        clear hkj
        go_enter Try.func25, Try.ntmps25
        go_wp2_with fail
        go_region
        all_goals
          go_wp2_with fail
          go_ret
          exact ⟨by rw [HD.out]; rfl, (alloc_b _ _).drew⟩
end Go.Proofs.Yteakbijlcccnnaa
