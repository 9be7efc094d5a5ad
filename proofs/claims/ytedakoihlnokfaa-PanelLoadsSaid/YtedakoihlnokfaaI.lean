/- See. -/
import Derived.Test.YtedakoihlnokfaaH
namespace Go.Proofs.Ytedakoihlnokfaa
set_option linter.unusedVariables false
set_option linter.unusedSimpArgs false
open Go.ChangeShapes Go.WideShapes Go.ChangeAt Go.RowKit

/-- Bits that came in. -/
structure Bl (w : World) (a : Option Addr) (m c : Nat) (f : Nat → Bool) : Prop where
  row : Row w a m (fun i => .bool (f i))
theorem Bl.below {W w : World} {a : Option Addr} {m c : Nat} {f : Nat → Bool} (h : Bl W a m c f) (hb : Below W.heap.size W w) : Bl w a m c f := ⟨h.row.below hb⟩
def anew (S S' : List Int) (k : Nat) : Bool := (List.range k).any fun i => newB (S'.getD i 0) && !newB (S.getD i 0)
theorem anew_zero (S S' : List Int) : anew S S' 0 = false := rfl
theorem anew_succ (S S' : List Int) (k : Nat) : anew S S' (k + 1) = (anew S S' k || (newB (S'.getD k 0) && !newB (S.getD k 0))) := by
  unfold anew
  rw [List.range_succ, List.any_append]
  simp
def siA (si : Bool) (S S' : List Int) (k : Nat) : Bool := si && !anew S S' k
def SeeP (B : Nat) (w : World) (p sb : Nat) (ka : Option Addr) (kc n la lb : Nat) (K S : List Int) (si te : Bool) (f g : Nat → Bool) (e : Ending) (w' : World) : Prop :=
  (¬ (la = n ∧ lb = n) ∧ DoP B w p sb ka kc n K S si te (.bool false) e w') ∨
  (la = n ∧ lb = n ∧ DoP B w p sb ka kc n K (mapN K S (hapS f g)) (siA si S (mapN K S (hapS f g)) n) te (.bool true) e w')
theorem row_off {w w' : World} {a : Option Addr} {m : Nat} {f : Nat → Bool} {l : List Nat} (h : Row w a m (fun i => .bool (f i))) (hf : Fs l w w') (hd : ∀ b off, a = some ⟨b, off, none⟩ → 0 < m → b ∉ l) : Row w' a m (fun i => .bool (f i)) := by
  refine ⟨h.le, ?_⟩
  rcases h.at' with z | ⟨b, off, e, hlt, hc⟩
  · exact .inl z
  · by_cases h0 : m = 0
    · exact .inl h0
    · exact .inr ⟨b, off, e, Nat.lt_of_lt_of_le hlt hf.size, fun i hi => (World.cell?_of_block (a := ⟨b, off + i, none⟩) (hf.block b hlt (hd b off e (by omega)))).trans (hc i hi)⟩
/-- Bits lie nowhere where a panel's states, or flags, do. -/
theorem row_not {B : Nat} {w : World} {p sb : Nat} {ka : Option Addr} {kc n : Nat} {K S : List Int} {si te : Bool} (h : Pn B w p sb ka kc n K S si te) {a : Option Addr} {m : Nat} {f : Nat → Bool} (hr : Row w a m (fun i => .bool (f i))) : ∀ b off, a = some ⟨b, off, none⟩ → 0 < m → b ∉ [sb] := by
  intro b off e h0
  obtain ⟨b', off', e', _, hc⟩ := hr.pos h0
  rw [e] at e'
  simp only [Option.some.injEq, Addr.mk.injEq, and_true] at e'
  simp only [List.mem_singleton]
  rintro rfl
  have h1 := hc 0 h0
  rw [← e'.1] at h1
  simp only [World.cell?, h.st] at h1
  have : (iv S)[off' + 0]? = some (.bool (f 0)) := by simpa using h1
  simp [iv] at this
set_option maxRecDepth 100000 in
set_option maxHeartbeats 4000000 in
theorem seeP_any {B : Nat} {w : World} {p sb : Nat} {ka : Option Addr} {kc n : Nat} {K S : List Int} {si te : Bool} (h : Pn B w p sb ka kc n K S si te) (a b : Option Addr) (la ca lb cb : Nat) (f g : Nat → Bool) (ha : Row w a la (fun i => .bool (f i))) (hb : Row w b lb (fun i => .bool (g i))) :
    Calls Try.prog 13 #[.pointer (some ⟨p, 0, none⟩), .slice a la ca, .slice b lb cb] w (SeeP B w p sb ka kc n la lb K S si te f g) := by
  obtain ⟨P, hP⟩ : ∃ P, P = (SeeP B w p sb ka kc n la lb K S si te f g : Ending → World → Prop) := ⟨_, rfl⟩
  rw [← hP]
  have HP := Lib.hid hP
  clear hP
  have H := Lib.hid h
  have n64 := h.n64
  have hla := ha.le
  have hlb := hb.le
  unfold maxLen at hla hlb
  have b0 := alloc_b w (.cells #[.slice a la ca] 28 (0, 0))
  have b1 := alloc_b (w.alloc (.cells #[.slice a la ca] 28 (0, 0))) (.cells #[.slice b lb cb] 28 (0, 0))
  have bw := b0.trans (b1.mono b0.size)
  have x1 := low_of b1 (heap_alloc_new w (.cells #[.slice a la ca] 28 (0, 0)))
  have y1 := heap_alloc_new (w.alloc (.cells #[.slice a la ca] 28 (0, 0))) (.cells #[.slice b lb cb] 28 (0, 0))
  rw [World.size_alloc] at y1
  obtain ⟨W, hW⟩ : ∃ W, W = (w.alloc (.cells #[.slice a la ca] 28 (0, 0))).alloc (.cells #[.slice b lb cb] 28 (0, 0)) := ⟨_, rfl⟩
  rw [← hW] at bw x1 y1
  have BW := Lib.hid bw
  have X1 := Lib.hid x1
  have Y1 := Lib.hid y1
  have hpw := h.below bw
  have HPW := Lib.hid hpw
  obtain ⟨c0, c1, c2, c3, f2, f3⟩ := cells4 hpw.blk
  have xc : W.cell? ⟨w.heap.size, 0, none⟩ = some (.slice a la ca) := by simp [World.cell?, x1]
  have yc : W.cell? ⟨w.heap.size + 1, 0, none⟩ = some (.slice b lb cb) := by simp [World.cell?, y1]
  have hdn : ∀ W', Below W.heap.size W W' → ¬ (la = n ∧ lb = n) → P (.returned (.bool false)) W' := fun W' hb' q => by rw [HP.out]; exact .inl ⟨q, rfl, hpw.below hb', Fs.of_below (bw.trans (hb'.mono bw.size))⟩
  have HDN := Lib.hid hdn
  have HW := Lib.hid hW
  have RA := Lib.hid (ha.below bw)
  have RB := Lib.hid (hb.below bw)
  have hp1 : ¬ p = w.heap.size ∧ ¬ p = w.heap.size + 1 := by have := h.lt; omega
  rw [hW] at c0 c1 c2 c3 f2 f3 xc yc
  clear h ha hb b0 b1 bw x1 y1 hpw hdn hW
  by_cases e1 : la = n
  · by_cases e2 : lb = n
    · subst e1
      subst e2
      have t1 : ((lb : Int) != (lb : Int)) = false := by simp
      go_enter Try.func13, Try.ntmps13
      go_upto_region 1 with fail
      go_quiet (fail)
      go_wp2_with fail
      rw [← HW.out]
      have bq := below_drewN (Below.refl W.heap.size W) nq
      generalize W.drewN nq = W2 at bq ⊢
      have hp2 := HPW.out.below bq
      have HP2 := Lib.hid hp2
      have X2 := Lib.hid (low_of bq X1.out)
      have Y2 := Lib.hid (low_of bq Y1.out)
      have RA2 := Lib.hid (RA.out.below bq)
      have RB2 := Lib.hid (RB.out.below bq)
      have BW2 := Lib.hid (BW.out.trans (bq.mono BW.out.size))
      have hlt2 := hp2.lt
      clear bq c0 c1 c2 c3 f2 f3 xc yc hp2
      refine (statesP_any HP2.out).mono ?_
      rintro e w3 ⟨gb, rfl, hgb, hgl, z3⟩
      have hp3 := HP2.out.below z3
      have HP3 := Lib.hid hp3
      have hxs : w.heap.size < W2.heap.size ∧ w.heap.size + 1 < W2.heap.size := ⟨blk_lt X2.out, blk_lt Y2.out⟩
      have hsw := H.out.lt
      have hcap : ∀ w', Fs [sb] w3 w' → Cap w' w.heap.size (w.heap.size + 1) lb f g := by
        intro w' hf
        have hs3 := z3.size
        refine ⟨⟨a, ca, ?_, row_off (RA2.out.below z3) hf (row_not hp3 (RA2.out.below z3))⟩, ⟨b, cb, ?_, row_off (RB2.out.below z3) hf (row_not hp3 (RB2.out.below z3))⟩⟩
        · have := (hf.block w.heap.size (by omega) (by simp; omega)).trans (low_of z3 X2.out)
          simp [World.cell?, this]
        · have := (hf.block (w.heap.size + 1) (by omega) (by simp; omega)).trans (low_of z3 Y2.out)
          simp [World.cell?, this]
      have HS := Lib.hid (happens_see hp3 hcap)
      have GB := Lib.hid hgb
      have Z3 := Lib.hid z3
      clear hcap hp3 hgb z3
      go_wp2_with fail
      refine HS.out.mono ?_
      rintro e w4 ⟨rfl, h4, f4⟩
      have hp4 := HP3.out.turn f4 (by rw [mapN_len, H.out.sl]) (mapN_9 H.out.s8) h4
      have hgb4 := (f4.block gb (blk_lt GB.out) (by simp; omega)).trans GB.out
      have HF4 : Hid (Fs [p, sb] w w4) := Lib.hid (((Fs.of_below BW2.out).trans (Fs.of_below Z3.out)).trans (f4.mono (by simp)))
      have HS8 := Lib.hid H.out.s8
      have HSL := Lib.hid H.out.sl
      obtain ⟨S', hS'⟩ : ∃ S', S' = mapN K S (hapS f g) := ⟨_, rfl⟩
      rw [← hS'] at hp4
      have HS' := Lib.hid hS'
      have HP4 := Lib.hid hp4
      have GB4 := Lib.hid hgb4
      have hgp : gb ≠ p := by omega
      obtain ⟨c0, c1, c2, c3, f2, f3⟩ := cells4 hp4.blk
      clear h4 f4 hp4 hgb4 hS' HS
      go_wp2_with fail
      clear c0 c1 c2 c3 f2 f3
      go_loopw [38] (fun i wr => ∃ k : Nat, k ≤ lb ∧ i = .int .i64 k ∧ Pn B wr p sb ka kc lb K S' (siA si S S' k) te ∧ Fs [p] w4 wr) (fun i _ => lb - (intOf i).toNat)
      case atStart => exact ⟨0, Nat.zero_le _, rfl, by simpa [siA, anew_zero] using HP4.out, Fs.refl _ _⟩
      case round =>
        obtain ⟨wo, rfl⟩ : ∃ wo : World, wo = wr := ⟨_, rfl⟩
        obtain ⟨k, hk, rfl, hpo, hfo⟩ := hrel
        by_cases hkn : k < lb
        · obtain ⟨c0, c1, c2, c3, f2, f3⟩ := cells4 hpo.blk
          have cs := (iv_cell hpo.st (k := k) (by rw [hpo.sl]; exact hkn)).1
          have gbo := (hfo.block gb (blk_lt GB4.out) (by simpa using hgp)).trans GB4.out
          have cg := (iv_cell gbo (k := k) (by rw [HSL.out]; exact hkn)).1
          have hsu : siA si S S' (k + 1) = (siA si S S' k && !(newB (S'.getD k 0) && !newB (S.getD k 0))) := by
            unfold siA
            rw [anew_succ]
            cases si <;> simp
          have d0 : (k : Int) < (lb : Int) := by omega
          have d1 : (0 : Int) ≤ (k : Int) := by omega
          generalize S'.getD k 0 = s1 at cs hsu
          generalize S.getD k 0 = s0 at cg hsu
          have HPO := Lib.hid hpo
          have HFO := Lib.hid hfo
          have HSU := Lib.hid hsu
          clear hpo hfo gbo hsu
          cases hn1 : newB s1 with
          | false =>
            have N1 := Lib.hid hn1
            clear hn1
            go_wp2_with fail
            refine (isNew_any s1 wo).mono ?_
            rintro e w5 ⟨rfl, rfl⟩
            rw [N1.out]
            go_wp2_with fail
            go_roundw
            case rel => exact ⟨k + 1, by omega, by go_num, by rw [HSU.out, N1.out]; simpa using HPO.out, HFO.out⟩
            case measure => simp [intOf]; omega
          | true =>
            cases hn0 : newB s0 with
            | true =>
              have N1 := Lib.hid hn1
              have N0 := Lib.hid hn0
              clear hn1 hn0
              go_wp2_with fail
              refine (isNew_any s1 wo).mono ?_
              rintro e w5 ⟨rfl, rfl⟩
              rw [N1.out]
              go_wp2_with fail
              refine (isNew_any s0 wo).mono ?_
              rintro e w5 ⟨rfl, rfl⟩
              rw [N0.out]
              go_wp2_with fail
              go_roundw
              case rel => exact ⟨k + 1, by omega, by go_num, by rw [HSU.out, N1.out, N0.out]; simpa using HPO.out, HFO.out⟩
              case measure => simp [intOf]; omega
            | false =>
              have N1 := Lib.hid hn1
              have N0 := Lib.hid hn0
              clear hn1 hn0
              go_wp2_with fail
              refine (isNew_any s1 wo).mono ?_
              rintro e w5 ⟨rfl, rfl⟩
              rw [N1.out]
              go_wp2_with fail
              refine (isNew_any s0 wo).mono ?_
              rintro e w5 ⟨rfl, rfl⟩
              rw [N0.out]
              have NP := Lib.hid (HPO.out.flag2 false)
              have NF := Lib.hid (HFO.out.trans (Fs.set wo p 2 (.bool false)))
              go_wp2_with fail
              go_roundw
              case rel => exact ⟨k + 1, by omega, by go_num, by rw [HSU.out, N1.out, N0.out]; simpa using NP.out, NF.out⟩
              case measure => simp [intOf]; omega
        · have hk' : k = lb := by omega
          subst hk'
          have HPO := Lib.hid hpo
          have HFO := Lib.hid hfo
          clear hpo hfo
          go_wp2_with fail
          rw [HP.out]
          exact .inr ⟨rfl, rfl, rfl, by rw [← HS'.out]; exact HPO.out, HF4.out.trans (HFO.out.mono (by simp))⟩
    · subst e1
      have t1 : ((la : Int) != (la : Int)) = false := by simp
      have t2 : ((lb : Int) != (la : Int)) = true := by simp; omega
      go_enter Try.func13, Try.ntmps13
      go_upto_region 1 with fail
      go_quiet (fail)
      go_wp2_with fail
      rw [← HW.out]
      exact HDN.out _ (below_drewN (Below.refl _ _) _) (fun q => e2 q.2)
  · have t1 : ((la : Int) != (n : Int)) = true := by simp; omega
    go_enter Try.func13, Try.ntmps13
    go_upto_region 1 with fail
    go_quiet (fail)
    go_wp2_with fail
    rw [← HW.out]
    exact HDN.out _ (below_drewN (Below.refl _ _) _) (fun q => e1 q.1)
end Go.Proofs.Ytedakoihlnokfaa
