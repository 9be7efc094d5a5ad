/- The document's Lapse, Load. -/
import Derived.Test.YtfloceoopjokcaaW
namespace Go.Proofs.Ytfloceoopjokcaa
set_option linter.unusedVariables false
open Go.ChangeShapes Go.WideShapes Go.ChangeAt Go.RowKit

def Rw (w : World) (eb n : Nat) (E : List Int) : Prop := ∃ arr : Array Value, w.heap[eb]? = some (.cells arr 2 (0, 0)) ∧ ∀ i, i < n → arr[i]? = some (.int .i64 (E.getD i 0))
theorem Rt.turned {C t eb : Nat} {w w' : World} {Lm E E' : List Int} (h : Rt C w t eb Lm E) (f : Fr eb w w') (hr : Rw w' eb Lm.length E') (hl : E'.length = Lm.length) (hb : ∀ x ∈ E', 0 ≤ x ∧ x ≤ 2199023255552) : Rt C w' t eb Lm E' := by
  obtain ⟨la, lc, ec, h1, h2, h3⟩ := h.blk
  exact ⟨h.ht, h.he, h.ne, hl, hb, ⟨la, lc, ec, (f.block t h.lt.1 h.ne).trans h1, h2.fr f (fun b off e h0 => (h3.1 b off e h0).2.1), h3⟩, hr⟩
theorem Fr.then_below {m : Nat} {a b c : World} (h : Fr m a b) (hb : Below a.heap.size b c) : Fr m a c :=
  ⟨hb.os.trans h.os, hb.tape.trans h.tape, hb.output.trans h.output, Nat.le_trans h.size hb.size, fun k hk h1 => (hb.block k hk).trans (h.block k hk h1)⟩
theorem Fr.set {m : Nat} {a b : World} (h : Fr m a b) (k : Nat) (v : Value) : Fr m a (b.setCell ⟨m, k, none⟩ v) :=
  ⟨h.os, h.tape, h.output, by simpa [World.setCell] using h.size, fun j hj h1 => (Below.heap_setCell _ _ _ _ h1).trans (h.block j hj h1)⟩
theorem own_set {w : World} {B e n m k : Nat} {v u : Value} {L : List Value} (h : w.ownsRow B e 1 v n L) (hm : m < B) : (w.setCell ⟨m, k, none⟩ u).ownsRow B e 1 v n L := by
  obtain ⟨hl, h | ⟨g, cap, cur, hv, hg, hb, q1, q2, q3, q4⟩⟩ := h
  · exact ⟨hl, .inl h⟩
  · exact ⟨hl, .inr ⟨g, cap, cur, hv, hg, (Below.heap_setCell _ _ _ _ (show g ≠ m by omega)).trans hb, q1, q2, q3, q4⟩⟩

def RLapseP (C : Nat) (w : World) (t eb : Nat) (Lm E : List Int) (now : Int) (e : Ending) (w' : World) : Prop :=
  ∃ a c, e = .returned (.slice a (ovL E now Lm.length).length c) ∧ ArgI w' a (ovL E now Lm.length).length c (ovL E now Lm.length) ∧ Rt C w' t eb Lm (dropAll E (ovL E now Lm.length)) ∧ F2 t eb w w'
set_option maxRecDepth 100000 in
set_option maxHeartbeats 4000000 in
theorem rlapse_any {C t eb : Nat} {w : World} {Lm E : List Int} (h : Rt C w t eb Lm E) (now : Int) (hn : Lm.length * 8 ≤ 140737488355328) :
    Calls Try.prog 14 #[.pointer (some ⟨t, 0, none⟩), .int .i64 now] w (RLapseP C w t eb Lm E now) := by
  have hlt := h.lt
  have hC := h.size
  have hCe := h.he
  have H := Lib.hid h
  obtain ⟨n, hnn⟩ : ∃ n, n = Lm.length := ⟨_, rfl⟩
  have HN := Lib.hid hnn
  rw [← hnn] at hn
  have hrow : Rw w eb n E := by rw [hnn]; exact h.row
  have ROW := Lib.hid hrow
  clear h hnn hrow
  go_enter Try.func14, Try.ntmps14
  go_wp2_with fail
  go_loopw [5, 6] (fun v i wr => ∃ k : Nat, k ≤ n ∧ i = .int .i64 k ∧ wr.ownsRow w.heap.size 3 1 v (ovL E now k).length (iv (ovL E now k)) ∧ Fr eb w wr ∧ Rw wr eb n (dropAll E (ovL E now k))) (fun _ i _ => n - (intOf i).toNat)
  case atStart => exact ⟨0, Nat.zero_le _, rfl, ⟨rfl, .inl ⟨rfl, rfl⟩⟩, Fr.refl _ _, ROW.out⟩
  case round =>
    obtain ⟨wo, rfl⟩ : ∃ wo : World, wo = wr := ⟨_, rfl⟩
    obtain ⟨k, hk, rfl, hown, hfr, hrw⟩ := hrel
    have hT : Rt C wo t eb Lm (dropAll E (ovL E now k)) := H.out.turned hfr (by rw [← HN.out]; exact hrw) (by rw [dropAll_len]; exact H.out.ln) (dropAll_bd H.out.bd _)
    obtain ⟨ec, c1, hle, hmx, hc⟩ := hT.ends
    rw [← HN.out] at c1 hle hc
    unfold maxLen at hmx
    by_cases hkn : k < n
    · have hkw : (Lit.int .i64 (k : Int)).wf = true := wf_i64 (by omega) (by omega)
      obtain ⟨cc, cz⟩ := hc k hkn
      rw [dropAll_getD, if_neg (by rw [ovL_mem]; omega)] at cc
      have hov : ovL E now (k + 1) = if 0 < E.getD k 0 ∧ E.getD k 0 ≤ now then ovL E now k ++ [(k : Int)] else ovL E now k := rfl
      have hlen := ovL_len E now k
      have p2 : (k : Int) < (n : Int) := by omega
      generalize E.getD k 0 = x at cc hov
      have OV := Lib.hid hov
      have O := Lib.hid hown
      have FR := Lib.hid hfr
      have RW := Lib.hid hrw
      have T := Lib.hid hT
      clear hov hown hfr hrw hT hc
      by_cases hx : 0 < x
      · have dx : decide (0 < x) = true := by simpa using hx
        by_cases hy : x ≤ now
        · have dy : decide (x ≤ now) = true := by simpa using hy
          have OV2 := Lib.hid (show ovL E now (k + 1) = ovL E now k ++ [(k : Int)] by rw [OV.out, if_pos ⟨hx, hy⟩])
          have hs := FR.out.size
          clear OV
          go_wp2_with (at_builtin; refine wpList_append_ir 33 3 Try.underlying33 info3 rfl (.tmp 35) (.tmp 37) rfl w.heap.size _ ?hB _ (ovL E now k).length (ovL E now k) rfl ?own (some ⟨wo.heap.size, 0, none⟩) 1 1 [(k : Int)] rfl ?hby ?nil ?le ?_)
          case hB => simp; omega
          case own => exact O.out.alloc _
          case nil => intro e; cases e
          case le => omega
          case hby =>
            refine ⟨rfl, by unfold maxLen; omega, by simpa using hkw, .inr ⟨wo.heap.size, 0, rfl, by simp, fun i hi => ?_⟩⟩
            have : i = 0 := by omega
            subst this
            simp only [World.cell?, heap_alloc_new]
            rfl
          intro v2 w5 ho2 hg2 hn2 hk2
          have hb2 : Below w.heap.size wo w5 := ((Below.refl _ _).alloc hs _).grown hg2 (by simp; omega) (fun q hq => (O.out.lt q hq).1)
          have ho3 : w5.ownsRow w.heap.size 3 1 v2 (ovL E now (k + 1)).length (iv (ovL E now (k + 1))) := by
            rw [OV2.out, List.length_append]; exact ho2
          have f5 := FR.out.then_below hb2
          have rw5 : Rw w5 eb Lm.length (dropAll E (ovL E now k)) := by
            obtain ⟨arr, r1, r2⟩ := RW.out
            exact ⟨arr, (hb2.block eb hlt.2).trans r1, by rw [← HN.out]; exact r2⟩
          have T5 : Rt C w5 t eb Lm (dropAll E (ovL E now k)) := H.out.turned f5 rw5 (by rw [dropAll_len]; exact H.out.ln) (dropAll_bd H.out.bd _)
          obtain ⟨ec5, c5, _, _, hc5⟩ := T5.ends
          rw [← HN.out] at c5 hc5
          obtain ⟨cc5, cz5⟩ := hc5 k hkn
          have S5 := T5.set k 0 (by omega) (by rw [← HN.out]; exact hkn)
          have he5 : (dropAll E (ovL E now k)).set k 0 = dropAll E (ovL E now (k + 1)) := by
            rw [OV2.out, dropAll_snoc]; unfold dropE; rw [if_pos (by omega)]; simp
          rw [he5] at S5
          have SR : Rw (w5.setCell ⟨eb, k, none⟩ (.int .i64 0)) eb n (dropAll E (ovL E now (k + 1))) := by rw [HN.out]; exact S5.row
          have O3 := Lib.hid (own_set (m := eb) (k := k) (u := .int .i64 0) ho3 hlt.2)
          have F3 := Lib.hid (f5.set k (.int .i64 0))
          have R3 := Lib.hid SR
          clear ho2 ho3 hg2 hn2 hk2 hb2 O f5 rw5 T5 hc5 S5 he5 SR T RW FR
          go_wp2_with fail
          go_roundw
          case rel => exact ⟨k + 1, by omega, by go_num, O3.out, F3.out, R3.out⟩
          case measure => simp [intOf]; omega
        · have dy : decide (x ≤ now) = false := by simpa using hy
          have OV2 := Lib.hid (show ovL E now (k + 1) = ovL E now k by rw [OV.out, if_neg (by omega)])
          clear OV
          go_wp2_with fail
          go_roundw
          case rel => exact ⟨k + 1, by omega, by go_num, by rw [OV2.out]; exact O.out, FR.out, by rw [OV2.out]; exact RW.out⟩
          case measure => simp [intOf]; omega
      · have dx : decide (0 < x) = false := by simpa using hx
        have OV2 := Lib.hid (show ovL E now (k + 1) = ovL E now k by rw [OV.out, if_neg (by omega)])
        clear OV
        go_wp2_with fail
        go_roundw
        case rel => exact ⟨k + 1, by omega, by go_num, by rw [OV2.out]; exact O.out, FR.out, by rw [OV2.out]; exact RW.out⟩
        case measure => simp [intOf]; omega
    · have hk' : k = n := by omega
      subst hk'
      obtain ⟨av, cv, rfl, AV, FV⟩ := own_ir hown (ovL_wf _ _ _ (by unfold maxLen; omega))
      have HP : Hid (RLapseP C w t eb Lm E now (.returned (.slice av (ovL E now k).length cv)) wo) := Lib.hid (by
        rw [HN.out] at AV hT ⊢
        exact ⟨av, cv, rfl, AV, hT, F2.of_q hfr⟩)
      clear hown hfr hrw hT hc AV FV
      go_wp2_with fail
      go_ret
      exact HP.out

def RLoadP (C : Nat) (w : World) (t : Nat) (Lm L : List Int) (e : Ending) (w' : World) : Prop :=
  (e = .returned (.bool false) ∧ w' = w ∧ (L.length ≠ Lm.length ∨ L.any badI = true)) ∨ (e = .returned (.bool true) ∧ L.length = Lm.length ∧ L.any badI = false ∧ (∃ eb', Rt C w' t eb' Lm L) ∧ Fr t w w')
theorem own_row {w : World} {B n : Nat} {v : Value} {L : List Int} (h : w.ownsRow B 2 1 v n (iv L)) (hne : v ≠ .slice none 0 0) : ∃ g c, v = .slice (some ⟨g, 0, none⟩) n c ∧ B ≤ g ∧ n ≤ c ∧ c ≤ maxLen ∧ ∃ arr : Array Value, w.heap[g]? = some (.cells arr 2 (0, 0)) ∧ ∀ i, i < n → arr[i]? = some (.int .i64 (L.getD i 0)) := by
  obtain ⟨hl, ⟨hv, h0⟩ | ⟨g, cap, cur, hv, hg, hb, hl', hm, hs, ht⟩⟩ := h
  · exact absurd hv hne
  · have hn : L.length = n := by simpa [iv_len] using hl
    refine ⟨g, cap, hv, hg, hl', hm, cur, hb, fun i hi => ?_⟩
    have h1 : (cur.toList.take (n * 1))[i]? = (iv L)[i]? := by rw [ht]
    rw [List.getElem?_take_of_lt (by omega), iv_get L i (by omega)] at h1
    rw [← Array.getElem?_toList, h1]
set_option maxRecDepth 100000 in
set_option maxHeartbeats 4000000 in
theorem rload_any {C t eb : Nat} {w : World} {Lm E : List Int} (h : Rt C w t eb Lm E) (a : Option Addr) (n c : Nat) (L : List Int) (hA : ArgI w a n c L) (hn : Lm.length * 8 ≤ 140737488355328) :
    Calls Try.prog 17 #[.pointer (some ⟨t, 0, none⟩), .slice a n c] w (RLoadP C w t Lm L) := by
  have hle := hA.row.le
  unfold maxLen at hle
  have hlt := h.lt
  have hC := h.size
  have hCt := h.ht
  obtain ⟨ec, c1, _, hmx, _⟩ := h.ends
  unfold maxLen at hmx
  obtain ⟨ln, hnn⟩ : ∃ ln, ln = Lm.length := ⟨_, rfl⟩
  rw [← hnn] at c1 hn
  have H := Lib.hid h
  have A := Lib.hid hA
  have HN := Lib.hid hnn
  clear h hA hnn
  go_enter Try.func17, Try.ntmps17
  go_wp2_with fail
  go_loop [5] (fun i => ∃ k : Nat, k ≤ n ∧ i = .int .i64 k ∧ (L.take k).any badI = false) (fun i => n - (intOf i).toNat)
  case atStart => exact ⟨0, Nat.zero_le _, rfl, by simp⟩
  case round =>
    obtain ⟨k, hk, rfl, hb⟩ := hrel
    by_cases hkn : k < n
    · obtain ⟨b, off, ha, _, hc⟩ := A.out.row.pos (by omega)
      have hc0 := hc k hkn
      have hkl : k < L.length := by rw [A.out.row.ln]; exact hkn
      have hmem : L.getD k 0 ∈ L := by simp only [List.getD]; rw [List.getElem?_eq_getElem hkl]; exact List.getElem_mem hkl
      have hst : (L.take (k + 1)).any badI = badI (L.getD k 0) := by
        have h5 : L.take (k + 1) = L.take k ++ [L.getD k 0] := by
          rw [List.take_add_one, List.getElem?_eq_getElem hkl]
          simp [List.getD, List.getElem?_eq_getElem hkl]
        rw [h5, List.any_append, hb]
        simp
      subst ha
      generalize L.getD k 0 = x at hc0 hst hmem
      have HS := Lib.hid hst
      have HM := Lib.hid hmem
      clear hst hc hb hmem
      by_cases hx1 : x < 0
      · have d1 : decide (x < 0) = true := by simpa using hx1
        have HP : Hid (RLoadP C w t Lm L (.returned (.bool false)) w) := Lib.hid (.inl ⟨rfl, rfl, .inr (List.any_eq_true.2 ⟨x, HM.out, by unfold badI; rw [d1]; rfl⟩)⟩)
        go_wp2_with fail
        go_ret
        exact HP.out
      · have d1 : decide (x < 0) = false := by simpa using hx1
        by_cases hx2 : 2199023255552 < x
        · have d2 : decide (2199023255552 < x) = true := by simpa using hx2
          have HP : Hid (RLoadP C w t Lm L (.returned (.bool false)) w) := Lib.hid (.inl ⟨rfl, rfl, .inr (List.any_eq_true.2 ⟨x, HM.out, by unfold badI; rw [d1, d2]; rfl⟩)⟩)
          go_wp2_with fail
          go_ret
          exact HP.out
        · have d2 : decide (2199023255552 < x) = false := by simpa using hx2
          have hbx : badI x = false := by unfold badI; rw [d1, d2]; rfl
          have HX := Lib.hid hbx
          clear hbx
          go_wp2_with fail
          go_round
          case rel => exact ⟨k + 1, by omega, by go_num, by rw [HS.out]; exact HX.out⟩
          case measure => simp [intOf]; omega
    · have hk' : k = n := by omega
      subst hk'
      rw [List.take_of_length_le (by rw [A.out.row.ln]; exact Nat.le_refl _)] at hb
      have hbd : ∀ x ∈ L, 0 ≤ x ∧ x ≤ 2199023255552 := by
        intro x hx
        have := (List.any_eq_false.1 hb) x hx
        simp [badI] at this
        omega
      have BD := Lib.hid hbd
      have HB := Lib.hid hb
      clear hb hbd
      by_cases hq : k = ln
      · subst hq
        have c1' : (w.alloc (.cells #[] 2 (0, 0))).cell? ⟨t, 1, none⟩ = some (.slice (some ⟨eb, 0, none⟩) k ec) := ((alloc_b w (.cells #[] 2 (0, 0))).cell (p := ⟨t, 1, none⟩) hlt.1).trans c1
        go_wp2_with (at_builtin; refine wpList_append_ir 22 2 Try.underlying22 info2 rfl (.tmp 33) (.tmp 34) rfl w.heap.size _ ?hB (.slice (some ⟨w.heap.size, 0, none⟩) 0 0) 0 [] rfl ?own a k c L rfl ?hby ?nil ?le ?_)
        case own => exact own_newi 2 (Nat.le_refl _)
        case nil => intro e; exact (A.out.nil e).2
        case hby => exact A.out.row.below ((Below.refl _ _).alloc (Nat.le_refl _) _)
        intro v2 w2 ho2 hg2 hn2 hk2
        have b2 : Below w.heap.size w w2 := ((Below.refl _ _).alloc (Nat.le_refl _) _).grown hg2 (by simp) (fun k hk => by simp [Value.ownBlock] at hk; omega)
        obtain ⟨g, cg, rfl, hg, hgc, hgm, hrow⟩ := own_row ho2 (by first | exact hn2 | (intro e; rw [hn2] at e; cases e.1))
        have T2 := H.out.below b2
        obtain ⟨la, lc, ec2, h1, h2, h3⟩ := T2.blk
        have s1 : w2.cell? ⟨t, 1, none⟩ = some (.slice (some ⟨eb, 0, none⟩) Lm.length ec2) := by simp [World.cell?, h1]
        have s2 : w2.frozen? ⟨t, 1, none⟩ = false := by simp [World.frozen?, h1]
        rw [← HN.out] at s1
        have hfr : Fr t w2 (w2.setCell ⟨t, 1, none⟩ (.slice (some ⟨g, 0, none⟩) k cg)) := ⟨rfl, rfl, rfl, by simp [World.setCell], fun j _ h1 => Below.heap_setCell _ _ _ _ h1⟩
        have hblk := set_block h1 1 (.slice (some ⟨g, 0, none⟩) k cg)
        have hglt : g < w2.heap.size := by obtain ⟨arr, q1, _⟩ := hrow; exact blk_lt q1
        have HP : Hid (RLoadP C w t Lm L (.returned (.bool true)) (w2.setCell ⟨t, 1, none⟩ (.slice (some ⟨g, 0, none⟩) k cg))) := Lib.hid (.inr ⟨rfl, by rw [A.out.row.ln]; exact HN.out, HB.out, ⟨g, by
            refine ⟨hCt, by omega, by omega, by rw [A.out.row.ln]; exact HN.out, BD.out, ⟨la, lc, cg, ?_, h2.fr hfr (fun b off e h0 => (h3.1 b off e h0).2.2), fun b off e h0 => ⟨(h3.1 b off e h0).1, ?_, (h3.1 b off e h0).2.2⟩, by rw [← HN.out]; omega, hgm⟩, ?_⟩
            · rw [hblk, ← HN.out]; rfl
            · obtain ⟨la0, lc0, ec0, k1, k2, _⟩ := H.out.blk
              rw [b2.block t hlt.1, k1] at h1
              simp only [Option.some.injEq, Obj.cells.injEq, Array.mk.injEq, List.cons.injEq, Value.slice.injEq, and_true] at h1
              obtain ⟨b', off', e', hlt', _⟩ := k2.pos h0
              rw [h1.1.1, e] at e'
              simp only [Option.some.injEq, Addr.mk.injEq, and_true] at e'
              omega
            · obtain ⟨arr, q1, q2⟩ := hrow
              exact ⟨arr, (hfr.block g hglt (by omega)).trans q1, by rw [← HN.out]; intro i hi; have := q2 i (by omega); simpa using this⟩⟩, (Fr.of_below b2).trans hfr⟩)
        clear ho2 hg2 hn2 hk2 b2 T2 h1 h2 h3 hfr hblk hrow
        go_wp2_with fail
        go_ret
        exact HP.out
      · have d1 : decide (k = ln) = false := by simpa using hq
        have HP : Hid (RLoadP C w t Lm L (.returned (.bool false)) w) := Lib.hid (.inl ⟨rfl, rfl, .inl (by rw [A.out.row.ln, ← HN.out]; exact hq)⟩)
        go_wp2_with fail
        go_ret
        exact HP.out
end Go.Proofs.Ytfloceoopjokcaa
