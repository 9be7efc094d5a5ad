/- New. -/
import Derived.Test.YteakbijlcccnnaaH
namespace Go.Proofs.Yteakbijlcccnnaa
set_option linter.unusedVariables false
open Go.ChangeShapes Go.WideShapes Go.ChangeAt Go.RowKit

/-- The first k members, new. -/
def mcl (G : List Int) : Nat → List Value
  | 0 => []
  | k + 1 => mcl G k ++ [.bool false, .int .i64 0, .bool false, .int .i64 (gg G k)]
theorem mcl_len (G : List Int) (k : Nat) : (mcl G k).length = k * 4 := by
  induction k with
  | zero => rfl
  | succ k ih => simp only [mcl, List.length_append, ih]; simp; omega
theorem mcl_at (G : List Int) (k i j : Nat) (hi : i < k) (hj : j < 4) : (mcl G k)[i * 4 + j]? = ([.bool false, .int .i64 0, .bool false, .int .i64 (gg G i)] : List Value)[j]? := by
  induction k with
  | zero => omega
  | succ k ih =>
    simp only [mcl]
    rw [List.getElem?_append]
    by_cases e : i < k
    · rw [if_pos (by rw [mcl_len]; omega)]; exact ih e
    · have : i = k := by omega
      subst this
      rw [if_neg (by rw [mcl_len]; omega), mcl_len]
      congr 1; omega
theorem rep_sg (n i : Nat) : sg (List.replicate n La.z) i = La.z := by
  simp only [sg, List.getD, List.getElem?_replicate]
  split <;> rfl
theorem new_ok (G : List Int) : Ok G (List.replicate G.length La.z) := by
  refine ⟨by simp, ⟨fun i _ _ => rep_sg _ _, fun i _ h => ?_, fun i j _ _ h => ?_⟩⟩ <;> rw [rep_sg] at h <;> cases h
theorem new_Fm (G : List Int) (g : Int) : Fm G (List.replicate G.length La.z) g = none := by
  unfold Fm
  cases h : fo G (List.replicate G.length La.z) g with
  | none => rfl
  | some j => have := (fok_some h).2.1; rw [rep_sg] at this; cases this
/-- Members that the call owns. -/
theorem own_mb {B : Nat} {w : World} {v : Value} {n : Nat} {G : List Int} (h : w.ownsRow B 50 4 v n (mcl G n)) (S : List La) (hS : ∀ i, sg S i = La.z) : ∃ a mb c, v = .slice a n c ∧ B ≤ mb ∧ (0 < n → a = some ⟨mb, 0, none⟩) ∧ n ≤ c ∧ c ≤ maxLen ∧ (0 < n → Mb w mb n G S) := by
  obtain ⟨hl, ⟨hv, h0⟩ | ⟨g, cap, cur, hv, hg, hb, hl', hm, hs, ht⟩⟩ := h
  · subst h0
    exact ⟨none, B, 0, hv, Nat.le_refl _, fun q => by omega, Nat.le_refl _, Nat.zero_le _, fun q => by omega⟩
  · refine ⟨_, g, cap, hv, hg, fun _ => rfl, hl', hm, fun _ => ⟨cur, hb, fun i hi j hj => ?_⟩⟩
    have h1 : (cur.toList.take (n * 4))[i * 4 + j]? = (mcl G n)[i * 4 + j]? := by rw [ht]
    rw [List.getElem?_take_of_lt (by omega), mcl_at G n i j hi hj] at h1
    rw [← Array.getElem?_toList, h1]
    unfold mc; rw [hS]; rfl

theorem hbe2 (w : World) (v v2 : Value) (m : Nat) {t : Nat} {ty : TypeId} (h : w.heap[t]? = some (.cells #[v, .map (some m)] ty (0, 0))) : (w.setCell ⟨t, 0, none⟩ v2).heap[t]? = some (.cells #[v2, .map (some m)] ty (0, 0)) := set_block h 0 v2
theorem own_far {w : World} {B e sz n t i : Nat} {v u : Value} {L : List Value} (h : w.ownsRow B e sz v n L) (hne : v.ownBlock ≠ some t) : (w.setCell ⟨t, i, none⟩ u).ownsRow B e sz v n L := by
  obtain ⟨hl, h | ⟨g, cap, cur, hv, hg, hb, q1, q2, q3, q4⟩⟩ := h
  · exact ⟨hl, .inl h⟩
  · refine ⟨hl, .inr ⟨g, cap, cur, hv, hg, (Below.heap_setCell _ _ _ _ ?_).trans hb, q1, q2, q3, q4⟩⟩
    rintro rfl
    subst hv
    exact hne rfl
def NewP (w : World) (n : Nat) (G : List Int) (e : Ending) (w' : World) : Prop :=
  ∃ t m mb, e = .returned (.pointer (some ⟨t, 0, none⟩)) ∧ Lt w.heap.size w' t m mb 0 n G (List.replicate n La.z) ∧ Below w.heap.size w w'
set_option maxRecDepth 100000 in
set_option maxHeartbeats 4000000 in
theorem new_any (a : Option Addr) (n c : Nat) (G : List Int) (w : World) (h : Ir w a n G) (hn : n ≤ 2000000) :
    Calls Try.prog 7 #[.slice a n c] w (NewP w n G) := by
  have hl := h.ln
  have hmm := @run_makeMap Try.prog
  have hm0 : IMap Try.prog 3 ((w.alloc (.map #[] 0)).alloc (.cells #[.slice none 0 0, .map (some w.heap.size)] 48 (0, 0))) w.heap.size 0 (fun _ => none) := (imap_made w Try.prog 3).below (alloc_b _ _)
  have hb0 : ((w.alloc (.map #[] 0)).alloc (.cells #[.slice none 0 0, .map (some w.heap.size)] 48 (0, 0))).heap[w.heap.size + 1]? = some (.cells #[.slice none 0 0, .map (some w.heap.size)] 48 (0, 0)) := by
    have := heap_alloc_new (w.alloc (.map #[] 0)) (.cells #[.slice none 0 0, .map (some w.heap.size)] 48 (0, 0))
    simpa using this
  have hbe0 : Below w.heap.size w ((w.alloc (.map #[] 0)).alloc (.cells #[.slice none 0 0, .map (some w.heap.size)] 48 (0, 0))) := (alloc_b w _).alloc (by simp) _
  have H := Lib.hid h
  have HL := Lib.hid hl
  have M0 := Lib.hid hm0
  have B0 := Lib.hid hb0
  have BE0 := Lib.hid hbe0
  clear h hl hm0 hb0 hbe0
  go_enter Try.func7, Try.ntmps7
  go_wp2_with fail
  go_loopw [11] (fun i wr => ∃ k : Nat, k ≤ n ∧ i = .int .i64 k ∧ (∃ v, wr.heap[w.heap.size + 1]? = some (.cells #[v, .map (some w.heap.size)] 48 (0, 0)) ∧ wr.ownsRow w.heap.size 50 4 v k (mcl G k)) ∧ IMap Try.prog 3 wr w.heap.size 0 (fun _ => none) ∧ Below w.heap.size w wr) (fun i _ => n - (intOf i).toNat)
  case atStart => exact ⟨0, Nat.zero_le _, rfl, ⟨_, B0.out, rfl, .inl ⟨rfl, rfl⟩⟩, M0.out, BE0.out⟩
  case round =>
    obtain ⟨wo, rfl⟩ : ∃ wo : World, wo = wr := ⟨_, rfl⟩
    obtain ⟨k, hk, rfl, ⟨v, hbk, hown⟩, hM, hbe⟩ := hrel
    by_cases hkn : k < n
    · obtain ⟨b, off, ha, _, hcc⟩ := (H.out.below hbe).pos (by omega)
      subst ha
      have hc0 := hcc k hkn
      have t0 : wo.cell? ⟨w.heap.size + 1, 0, none⟩ = some v := by simp [World.cell?, hbk]
      have tlt := blk_lt hbk
      obtain ⟨x, hx⟩ : ∃ x, x = G.getD k 0 := ⟨_, rfl⟩
      rw [← hx] at hc0
      have hmc : mcl G (k + 1) = mcl G k ++ [.bool false, .int .i64 0, .bool false, .int .i64 x] := by rw [hx]; rfl
      have O := Lib.hid hown
      have BK := Lib.hid hbk
      have M := Lib.hid hM
      have BE := Lib.hid hbe
      have MC := Lib.hid hmc
      have hs := hbe.size
      obtain ⟨ti, hi, hz0, hz1, hz2⟩ := info_parts info50
      clear hcc hbk hown hM hbe hx hmc
      go_wp2_with (at_builtin; refine wpList_append_own_at _ rfl (.tmp 19) (.tmp 22) _ rfl w.heap.size 50 ti _ 4 32 Try.underlying46 hi hz0 hz1 hz2 rfl (by decide) v k (mcl G k) rfl ?own ⟨wo.heap.size, 0, none⟩ 1 1 [.bool false, .int .i64 0, .bool false, .int .i64 x] rfl rfl ?cs ?one ?mx ?byt ?hB ?_)
      case own => exact O.out.alloc _
      case cs =>
        intro j u hu
        rw [addr_at]
        simp only [World.cell?, heap_alloc_new, Nat.zero_add]
        simpa using hu
      case one => intro u hu; simp at hu; rcases hu with rfl | rfl | rfl | rfl <;> rfl
      case mx => unfold maxLen; omega
      case byt => omega
      case hB => simp; omega
      intro v2 w2 ho2 hg2 hn2 hk2
      obtain ⟨va, vn, vc, hv2⟩ : ∃ va vn vc, v2 = .slice va vn vc := by
        rcases ho2.2 with ⟨rfl, _⟩ | ⟨g, cap, cur, hv, _⟩
        · exact ⟨none, 0, 0, rfl⟩
        · exact ⟨_, _, _, hv⟩
      subst hv2
      have hb2 : Below w.heap.size wo w2 := ((Below.refl _ _).alloc hs _).grown hg2 (by simp; omega) (fun q hq => (O.out.lt q hq).1)
      have hnb : v.ownBlock ≠ some (w.heap.size + 1) := by
        intro e
        have hlt := O.out.2
        rcases hlt with ⟨rfl, _⟩ | ⟨g, cap, cur, hv, _, hbb, _⟩
        · simp [Value.ownBlock] at e
        · subst hv
          simp [Value.ownBlock] at e
          subst e
          have := BK.out
          rw [hbb] at this
          simp at this
      have hnm : v.ownBlock ≠ some w.heap.size := by
        intro e
        have hlt := O.out.2
        rcases hlt with ⟨rfl, _⟩ | ⟨g, cap, cur, hv, _, hbb, _⟩
        · simp [Value.ownBlock] at e
        · subst hv
          simp [Value.ownBlock] at e
          subst e
          obtain ⟨D, ⟨es, clock, hbq, _⟩, _⟩ := M.out.ex
          rw [hbb] at hbq; cases hbq
      have k2 : w2.heap[w.heap.size + 1]? = some (.cells #[v, .map (some w.heap.size)] 48 (0, 0)) := ((hg2.block _ (by simp; omega) (fun e => hnb e.symm)).trans ((alloc_b wo _).block _ tlt)).trans BK.out
      have c2 : w2.cell? ⟨w.heap.size + 1, 0, none⟩ = some v := by simp [World.cell?, k2]
      have z2 : w2.frozen? ⟨w.heap.size + 1, 0, none⟩ = false := by simp [World.frozen?, k2]
      have m2 : IMap Try.prog 3 w2 w.heap.size 0 (fun _ => none) := M.out.same ((hg2.block _ (by simp; omega) (fun e => hnm e.symm)).trans ((alloc_b wo _).block _ (by omega)))
      have f3 := Fs.set w2 (w.heap.size + 1) 0 (.slice va vn vc)
      have hnv : (Value.slice va vn vc).ownBlock ≠ some (w.heap.size + 1) := by
        intro e
        have hlt := ho2.2
        rcases hlt with ⟨hq, _⟩ | ⟨g, cap, cur, hv, _, hbb, _⟩
        · rw [hq] at e; simp [Value.ownBlock] at e
        · rw [hv] at e
          simp [Value.ownBlock] at e
          subst e
          rw [hbb] at k2
          simp at k2
      have M3 := Lib.hid (m2.same (f3.block _ m2.lt (by simp)))
      have B3 := Lib.hid (hbe2 w2 v (.slice va vn vc) w.heap.size k2)
      have BE3 := Lib.hid ((BE.out.trans hb2).trans (f3.below (B := w.heap.size) (by simp) (by have := hb2.size; omega)))
      have ho3 : w2.ownsRow w.heap.size 50 4 (.slice va vn vc) (k + 1) (mcl G (k + 1)) := by rw [MC.out]; exact ho2
      have O3 := Lib.hid (own_far ho3 hnv (i := 0) (u := .slice va vn vc))
      clear ho2 hg2 hn2 hk2 hb2 hnb hnm k2 m2 f3 hnv ho3
      go_wp2_with fail
      go_roundw
      case rel => exact ⟨k + 1, by omega, by go_num, ⟨_, B3.out, O3.out⟩, M3.out, BE3.out⟩
      case measure => simp [intOf]; omega
    · have hk' : k = n := by omega
      subst hk'
      obtain ⟨a1, mb, c1, rfl, g1, g2, g3, g4, g5⟩ := own_mb hown (List.replicate k La.z) (rep_sg k)
      have hT : Lt w.heap.size wo (w.heap.size + 1) w.heap.size mb 0 k G (List.replicate k La.z) := by
        have hgl := HL.out
        refine ⟨by omega, by omega, g1, HL.out, H.out.le, fun i => ?_, fun i => ?_, ?_, ⟨a1, c1, hbk, g2, g3, g4⟩, g5, hM.congr fun g => ?_⟩
        · exact getD_wf H.out.wf i
        · rw [rep_sg]; decide
        · rw [← hgl]; exact new_ok G
        · rw [← hgl]; exact new_Fm G g
      have HP : Hid (NewP w k G (.returned (.pointer (some ⟨w.heap.size + 1, 0, none⟩))) wo) := Lib.hid ⟨_, _, _, rfl, hT, hbe⟩
      clear hbk hown hM hbe g2 g5 hT
      go_wp2_with fail
      go_ret
      exact HP.out
end Go.Proofs.Yteakbijlcccnnaa
