/- What lapses. -/
import Derived.Test.YtfloceoopjokcaaC
namespace Go.Proofs.Ytfloceoopjokcaa
set_option linter.unusedVariables false
open Go.ChangeShapes Go.WideShapes Go.ChangeAt Go.RowKit

theorem over_any (c : Nat) (now e : Int) (w : World) (hc : w.cell? ⟨c, 0, none⟩ = some (.int .i64 now)) :
    Calls Try.prog 30 #[.int .i64 e, .pointer (some ⟨c, 0, none⟩)] w fun r w' => r = .returned (.bool (decide (e ≤ now))) ∧ w = w' := by
  go_enter Try.func30, Try.ntmps30
  go_wp2_with fail
  go_ret
  exact ⟨rfl, rfl⟩

/-- The first k of those that have an end that is over. -/
def ovL (E : List Int) (now : Int) : Nat → List Int
  | 0 => []
  | k + 1 => if 0 < E.getD k 0 ∧ E.getD k 0 ≤ now then ovL E now k ++ [(k : Int)] else ovL E now k
theorem ovL_len (E : List Int) (now : Int) (k : Nat) : (ovL E now k).length ≤ k := by
  induction k with
  | zero => exact Nat.le_refl _
  | succ k ih =>
    simp only [ovL]
    split
    · rw [List.length_append, List.length_singleton]; omega
    · omega
theorem ovL_mem (E : List Int) (now : Int) (k : Nat) (x : Int) : x ∈ ovL E now k ↔ 0 ≤ x ∧ x < (k : Int) ∧ 0 < E.getD x.toNat 0 ∧ E.getD x.toNat 0 ≤ now := by
  induction k with
  | zero => simp [ovL]; omega
  | succ k ih =>
    simp only [ovL]
    by_cases hc : 0 < E.getD k 0 ∧ E.getD k 0 ≤ now
    · rw [if_pos hc, List.mem_append, ih]
      simp only [List.mem_singleton]
      constructor
      · rintro (h | h)
        · exact ⟨h.1, by omega, h.2.2⟩
        · subst h; exact ⟨by omega, by omega, by simpa using hc⟩
      · rintro ⟨h1, h2, h3⟩
        by_cases e : x = (k : Int)
        · exact .inr e
        · exact .inl ⟨h1, by omega, h3⟩
    · rw [if_neg hc, ih]
      constructor
      · rintro ⟨h1, h2, h3⟩; exact ⟨h1, by omega, h3⟩
      · rintro ⟨h1, h2, h3⟩
        refine ⟨h1, ?_, h3⟩
        by_cases e : x = (k : Int)
        · subst e; exact absurd (by simpa using h3) hc
        · omega
theorem ovL_wf (E : List Int) (now : Int) (k : Nat) (hk : k ≤ maxLen) : ∀ x ∈ ovL E now k, (Lit.int .i64 x).wf = true := by
  intro x hx
  rw [ovL_mem] at hx
  unfold maxLen at hk
  exact wf_i64 (by omega) (by omega)

def PickP (w : World) (L : List Int) (e : Ending) (w' : World) : Prop := ∃ v, e = .returned v ∧ w'.ownsRow w.heap.size 3 1 v L.length (iv L) ∧ Below w.heap.size w w'
set_option maxRecDepth 100000 in
set_option maxHeartbeats 2000000 in
theorem pick_any {B : Nat} {w : World} {t m cn : Nat} {Lm E : List Int} (h : Tb B w t m cn Lm E) (now : Int) (c : Nat) (hc : w.cell? ⟨c, 0, none⟩ = some (.int .i64 now)) (hcl : c < w.heap.size) (hn : Lm.length * 8 ≤ 140737488355328) :
    Calls Try.prog 29 #[.pointer (some ⟨t, 0, none⟩), .func (.func 30) #[] #[.pointer (some ⟨c, 0, none⟩)]] w (PickP w (ovL E now Lm.length)) := by
  obtain ⟨la, lc, h1, _⟩ := h.blk
  obtain ⟨c0, _, _, _⟩ := cells2 h1
  have H := Lib.hid h
  have HC := Lib.hid hc
  clear h h1 hc
  obtain ⟨n, hnn⟩ : ∃ n, n = Lm.length := ⟨_, rfl⟩
  rw [← hnn] at c0 hn ⊢
  have HN := Lib.hid hnn
  clear hnn
  go_enter Try.func29, Try.ntmps29
  go_wp2_with fail
  go_loopw [5, 14] (fun v i wr => ∃ k : Nat, k ≤ n ∧ i = .int .i64 k ∧ wr.ownsRow w.heap.size 3 1 v (ovL E now k).length (iv (ovL E now k)) ∧ Below w.heap.size w wr) (fun _ i _ => n - (intOf i).toNat)
  case atStart => exact ⟨0, Nat.zero_le _, rfl, ⟨rfl, .inl ⟨rfl, rfl⟩⟩, Below.refl _ _⟩
  case round =>
    obtain ⟨wo, rfl⟩ : ∃ wo : World, wo = wr := ⟨_, rfl⟩
    obtain ⟨k, hk, rfl, hown, hbe⟩ := hrel
    by_cases hlt : k < n
    · have hkw : (Lit.int .i64 (k : Int)).wf = true := wf_i64 (by omega) (by omega)
      have hT := H.out.below hbe
      obtain ⟨la2, lc2, g1, _⟩ := hT.blk
      obtain ⟨_, c1, _, _⟩ := cells2 g1
      have hlk := hT.map.look_ok (t := 50) (e := 2) Try.underlying50 Try.underlying3 (zero2 wo) hkw
      rw [(Fm_unt hT.bd _).1, (Fm_unt hT.bd _).2] at hlk
      have hu : unt E (k : Int) = E.getD k 0 := by unfold unt; rw [if_pos (by omega)]; simp
      rw [hu] at hlk
      have hcc := (hbe.cell (p := ⟨c, 0, none⟩) hcl).trans HC.out
      have hov : ovL E now (k + 1) = if 0 < E.getD k 0 ∧ E.getD k 0 ≤ now then ovL E now k ++ [(k : Int)] else ovL E now k := rfl
      have hlen := ovL_len E now k
      have OV := Lib.hid hov
      have O := Lib.hid hown
      have BE := Lib.hid hbe
      have CC := Lib.hid hcc
      clear hT g1 hu hov hown hbe hcc
      generalize E.getD k 0 = u at hlk OV
      cases hp : decide (0 < u) with
      | false =>
        rw [hp] at hlk
        have hov : ovL E now (k + 1) = ovL E now k := by rw [OV.out, if_neg (by simp at hp; omega)]
        have OV2 := Lib.hid hov
        clear hp hov
        go_wp2_with fail
        go_roundw
        case rel => exact ⟨k + 1, by omega, by go_num, by rw [OV2.out]; exact O.out, BE.out⟩
        case measure => simp [intOf]; omega
      | true =>
        rw [hp] at hlk
        go_wp2_with fail
        refine (over_any c now u wo CC.out).mono ?_
        rintro e w1 ⟨rfl, rfl⟩
        cases hq : decide (u ≤ now) with
        | false =>
          have hov : ovL E now (k + 1) = ovL E now k := by rw [OV.out, if_neg (by simp at hq; omega)]
          have OV2 := Lib.hid hov
          clear hp hq hov
          go_wp2_with fail
          go_roundw
          case rel => exact ⟨k + 1, by omega, by go_num, by rw [OV2.out]; exact O.out, BE.out⟩
          case measure => simp [intOf]; omega
        | true =>
          have hov : ovL E now (k + 1) = ovL E now k ++ [(k : Int)] := by rw [OV.out, if_pos (by simp at hp hq; omega)]
          have OV2 := Lib.hid hov
          clear hp hq hov
          have hs := BE.out.size
          go_wp2_with (at_builtin; refine wpList_append_ir 33 3 Try.underlying33 info3 rfl (.tmp 32) (.tmp 34) rfl w.heap.size _ ?hB _ (ovL E now k).length (ovL E now k) rfl ?own (some ⟨wo.heap.size, 0, none⟩) 1 1 [(k : Int)] rfl ?hby ?nil ?le ?_)
          case hB => simp; omega
          case own => exact O.out.alloc _
          case nil => intro e; cases e
          case le => omega
          case hby =>
            refine ⟨rfl, by unfold maxLen; omega, by simpa using hkw, .inr ⟨wo.heap.size, 0, rfl, by simp, fun i hi => ?_⟩⟩
            have : i = 0 := by omega
            subst this
            simp only [World.cell?, heap_alloc_new]
            rfl
          intro v2 w2 ho2 hg2 hn2 hk2
          have hb2 : Below w.heap.size w w2 := (BE.out.alloc hs _).grown hg2 (by simp; omega) (fun q hq => (O.out.lt q hq).1)
          have ho3 : w2.ownsRow w.heap.size 3 1 v2 (ovL E now (k + 1)).length (iv (ovL E now (k + 1))) := by
            rw [OV2.out, List.length_append]; exact ho2
          have O3 := Lib.hid ho3
          have B3 := Lib.hid hb2
          clear ho2 ho3 hg2 hn2 hk2 hb2 O BE OV
          go_wp2_with fail
          go_roundw
          case rel => exact ⟨k + 1, by omega, by go_num, O3.out, B3.out⟩
          case measure => simp [intOf]; omega
    · have hk' : k = n := by omega
      subst hk'
      have O := Lib.hid hown
      have BE := Lib.hid hbe
      clear hown hbe
      go_wp2_with fail
      go_ret
      exact ⟨_, rfl, O.out, BE.out⟩
end Go.Proofs.Ytfloceoopjokcaa
