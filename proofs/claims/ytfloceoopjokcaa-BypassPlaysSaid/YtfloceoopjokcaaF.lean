/- Load. -/
import Derived.Test.YtfloceoopjokcaaC
namespace Go.Proofs.Ytfloceoopjokcaa
set_option linter.unusedVariables false
open Go.ChangeShapes Go.WideShapes Go.ChangeAt Go.RowKit Go.ChangeMaps Go.MapKept

theorem IMap.clear {P : Program} {k e t : TypeId} {w : World} {b n : Nat} {F : Int → Option Value} (h : IMap P k w b n F) (ht : P.underlying t = some (.map k e)) (ty : TypeId) :
    ∃ w', (Builtin.clear_ #[t] ty #[.map (some b)]).run P w = .ok (.tuple #[]) w' ∧ IMap P k w' b 0 (fun _ => none) ∧ w.mapTurned w' b := by
  obtain ⟨D, ⟨es, clock, hb, F0, hs, hd⟩, h2⟩ := h.ex
  refine ⟨setBlock w b (.map #[] clock), ?_, ⟨.map [], ⟨#[], clock, heap_setBlock_same hb _, ⟨by simp, stamped_empty clock, by simp⟩, Nat.le_refl _, rfl⟩, Maps.isMap_empty, fun i => ⟨fun v h => (by cases h), fun _ => rfl⟩⟩, ⟨es, clock, _, _, hb, rfl⟩⟩
  simp [Builtin.clear_, run_underlying ht, MapKept.run_getObj_map hb, MapKept.run_setObj_map _ hb, Result.andThen]
  rfl

def badI (x : Int) : Bool := decide (x < 0) || decide (2199023255552 < x)
theorem bad_any (x : Int) (w : World) : Calls Try.prog 32 #[.int .i64 x] w fun e w' => e = .returned (.bool (badI x)) ∧ w = w' := by
  unfold badI
  cases h1 : decide (x < 0) with
  | true =>
    go_enter Try.func32, Try.ntmps32
    go_wp2_with fail
    go_ret
    exact ⟨rfl, rfl⟩
  | false =>
    go_enter Try.func32, Try.ntmps32
    go_wp2_with fail
    go_ret
    exact ⟨rfl, rfl⟩

set_option maxRecDepth 100000 in
set_option maxHeartbeats 2000000 in
theorem index_any (a : Option Addr) (n c : Nat) (L : List Int) (w : World) (h : Ir w a n L) :
    Calls Try.prog 33 #[.slice a n c, .func (.func 32) #[] #[]] w fun e w' => (∃ r : Int, e = .returned (.int .i64 r) ∧ decide (0 ≤ r) = L.any badI) ∧ w = w' := by
  have hle := h.le
  unfold maxLen at hle
  have hln := h.ln
  have H := Lib.hid h
  have HN := Lib.hid hln
  clear h hln
  go_enter Try.func33, Try.ntmps33
  go_wp2_with fail
  go_loop [8] (fun i => ∃ k : Nat, k ≤ n ∧ i = .int .i64 k ∧ ∀ j, j < k → badI (L.getD j 0) = false) (fun i => n - (intOf i).toNat)
  case atStart => exact ⟨0, Nat.zero_le _, rfl, fun j hj => by omega⟩
  case round =>
    obtain ⟨k, hk, rfl, hb⟩ := hrel
    by_cases hkn : k < n
    · obtain ⟨b, off, ha, _, hc⟩ := H.out.pos (by omega)
      subst ha
      have hc0 := hc k hkn
      have hkl : k < L.length := by rw [HN.out]; exact hkn
      have hmem : L.getD k 0 ∈ L := by simp only [List.getD]; rw [List.getElem?_eq_getElem hkl]; exact List.getElem_mem hkl
      obtain ⟨x, hx⟩ : ∃ x, x = L.getD k 0 := ⟨_, rfl⟩
      rw [← hx] at hc0 hmem
      have HB := Lib.hid hb
      have HX := Lib.hid hx
      have HM := Lib.hid hmem
      clear hc hb hx hmem
      go_wp2_with fail
      refine (bad_any x w).mono ?_
      rintro e w1 ⟨rfl, rfl⟩
      cases hq : badI x with
      | true =>
        have hp : decide ((0 : Int) ≤ (k : Int)) = L.any badI := by
          rw [decide_eq_true (by omega)]
          exact (List.any_eq_true.2 ⟨x, HM.out, hq⟩).symm
        have HP := Lib.hid hp
        clear hp hq
        go_wp2_with fail
        go_ret
        exact ⟨⟨_, rfl, HP.out⟩, rfl⟩
      | false =>
        have HQ := Lib.hid hq
        clear hq
        go_wp2_with fail
        go_round
        case rel =>
          refine ⟨k + 1, by omega, by go_num, fun j hj => ?_⟩
          by_cases e : j = k
          · subst e; rw [← HX.out]; exact HQ.out
          · exact HB.out j (by omega)
        case measure => simp [intOf]; omega
    · have hk' : k = n := by omega
      subst hk'
      have hp : decide ((0 : Int) ≤ -1) = L.any badI := by
        rw [decide_eq_false (by omega)]
        symm
        rw [List.any_eq_false]
        intro x hx
        obtain ⟨j, hj, rfl⟩ := List.getElem_of_mem hx
        have := hb j (by rw [HN.out] at hj; exact hj)
        simp only [List.getD, List.getElem?_eq_getElem hj, Option.getD_some] at this
        simp [this]
      have HP := Lib.hid hp
      clear hp hb
      go_wp2_with fail
      go_ret
      exact ⟨⟨_, rfl, HP.out⟩, rfl⟩

theorem contains_any (a : Option Addr) (n c : Nat) (L : List Int) (w : World) (h : Ir w a n L) :
    Calls Try.prog 31 #[.slice a n c, .func (.func 32) #[] #[]] w fun e w' => e = .returned (.bool (L.any badI)) ∧ w = w' := by
  have H := Lib.hid h
  clear h
  go_enter Try.func31, Try.ntmps31
  go_wp2_with fail
  refine (index_any a n c L w H.out).mono ?_
  rintro e w1 ⟨⟨r, rfl, hr⟩, rfl⟩
  have HR := Lib.hid hr
  clear hr
  go_wp2_with fail
  go_ret
  first
    | exact ⟨rfl, rfl⟩
    | (rw [HR.out]; exact ⟨rfl, rfl⟩)

/-- The first k of L as a map holds them. -/
def Fk (L : List Int) (k : Nat) (j : Int) : Option Value := if j < (k : Int) then Fm L j else none
def LoadP (B : Nat) (w : World) (t m cn n : Nat) (Lm E L : List Int) (e : Ending) (w' : World) : Prop :=
  (e = .returned (.bool false) ∧ w' = w ∧ (L.length ≠ Lm.length ∨ L.any badI = true)) ∨ (e = .returned (.bool true) ∧ L.length = Lm.length ∧ L.any badI = false ∧ Tb B w' t m n Lm L ∧ Fr m w w')
set_option maxRecDepth 100000 in
set_option maxHeartbeats 2000000 in
theorem load_no {B : Nat} {w : World} {t m cn : Nat} {Lm E : List Int} (h : Tb B w t m cn Lm E) (a : Option Addr) (n c : Nat) (L : List Int) (hL : Ir w a n L) (hno : L.length ≠ Lm.length ∨ L.any badI = true) :
    Calls Try.prog 16 #[.pointer (some ⟨t, 0, none⟩), .slice a n c] w (LoadP B w t m cn n Lm E L) := by
  have HP : Hid (LoadP B w t m cn n Lm E L (.returned (.bool false)) w) := Lib.hid (.inl ⟨rfl, rfl, hno⟩)
  obtain ⟨la, lc, h1, _⟩ := h.blk
  obtain ⟨c0, _, _, _⟩ := cells2 h1
  have hln := hL.ln
  have HL := Lib.hid hL
  rw [hln] at hno
  clear h h1 hL
  generalize Lm.length = ln at c0 hno
  by_cases hq : n = ln
  · have hb : L.any badI = true := hno.resolve_left (by simp [hq])
    subst hq
    have HB := Lib.hid hb
    clear hno hb hln
    go_enter Try.func16, Try.ntmps16
    go_wp2_with fail
    refine (contains_any a n c L w HL.out).mono ?_
    rintro e w1 ⟨rfl, rfl⟩
    rw [HB.out]
    go_wp2_with fail
    go_ret
    exact HP.out
  · have d1 : decide (n = ln) = false := by simpa using hq
    clear hno hln
    go_enter Try.func16, Try.ntmps16
    go_wp2_with fail
    go_ret
    exact HP.out
set_option maxRecDepth 100000 in
set_option maxHeartbeats 2000000 in
theorem load_yes {B : Nat} {w : World} {t m cn : Nat} {Lm E : List Int} (h : Tb B w t m cn Lm E) (a : Option Addr) (n c : Nat) (L : List Int) (hL : Ir w a n L) (hnm : ∀ b off, a = some ⟨b, off, none⟩ → 0 < n → b ≠ m) (hl : L.length = Lm.length) (hb : L.any badI = false) :
    Calls Try.prog 16 #[.pointer (some ⟨t, 0, none⟩), .slice a n c] w (LoadP B w t m cn n Lm E L) := by
  have hbd : ∀ x ∈ L, 0 ≤ x ∧ x ≤ 2199023255552 := by
    intro x hx
    have := (List.any_eq_false.1 hb) x hx
    simp [badI] at this
    omega
  have hle := hL.le
  have hln := hL.ln
  have hPP : ∀ w', Tb B w' t m n Lm L → Fr m w w' → LoadP B w t m cn n Lm E L (.returned (.bool true)) w' := fun w' q1 q2 => .inr ⟨rfl, hl, hb, q1, q2⟩
  obtain ⟨la, lc, h1, _⟩ := h.blk
  obtain ⟨c0, c1, _, _⟩ := cells2 h1
  rw [← hl, hln] at c0
  obtain ⟨w1, hrun, him, htu⟩ := h.map.clear (t := 50) (e := 2) Try.underlying50 0
  have f1 := Fr.turned htu
  have him' : IMap Try.prog 3 w1 m 0 (Fk L 0) := him.congr fun j => by
    unfold Fk Fm
    by_cases hj : j < ((0 : Nat) : Int)
    · rw [if_pos hj, if_neg (by omega)]
    · rw [if_neg hj]
  have P := Lib.hid hPP
  have H := Lib.hid h
  have HL := Lib.hid hL
  have HN := Lib.hid hln
  have HB := Lib.hid hb
  have BD := Lib.hid hbd
  have NM := Lib.hid hnm
  have F := Lib.hid f1
  have IM := Lib.hid him'
  unfold maxLen at hle
  clear hPP h hL hln hb hbd hnm h1 him htu f1 him'
  go_enter Try.func16, Try.ntmps16
  go_wp2_with fail
  refine (contains_any a n c L w HL.out).mono ?_
  rintro e w1' ⟨rfl, rfl⟩
  rw [HB.out]
  go_wp2_with fail
  go_loopw [25] (fun i wr => ∃ k : Nat, k ≤ n ∧ i = .int .i64 k ∧ IMap Try.prog 3 wr m k (Fk L k) ∧ Fr m w wr) (fun i _ => n - (intOf i).toNat)
  case atStart => exact ⟨0, Nat.zero_le _, rfl, IM.out, F.out⟩
  case round =>
    obtain ⟨wo, rfl⟩ : ∃ wo : World, wo = wr := ⟨_, rfl⟩
    obtain ⟨k, hk, rfl, hM, hfr⟩ := hrel
    by_cases hkn : k < n
    · have hA : Ir wo a n L := HL.out.fr hfr NM.out
      obtain ⟨b, off, ha, _, hc⟩ := hA.pos (by omega)
      subst ha
      have hc0 := hc k hkn
      have hkl : k < L.length := by rw [HN.out]; exact hkn
      have hkw : (Lit.int .i64 (k : Int)).wf = true := wf_i64 (by omega) (by omega)
      have hFs : ∀ j, Fk L (k + 1) j = if j = (k : Int) then (if 0 < L.getD k 0 then some (.int .i64 (L.getD k 0)) else none) else Fk L k j := by
        intro j
        unfold Fk
        by_cases e : j = (k : Int)
        · subst e
          rw [if_pos (by omega), if_pos rfl]
          unfold Fm
          simp
        · rw [if_neg e]
          by_cases q : j < (k : Int)
          · rw [if_pos q, if_pos (by omega)]
          · rw [if_neg q, if_neg (by omega)]
      obtain ⟨x, hx⟩ : ∃ x, x = L.getD k 0 := ⟨_, rfl⟩
      rw [← hx] at hc0 hFs
      have hblk : wo.heap[t]? = w.heap[t]? := hfr.block t H.out.lt.1 H.out.ne
      obtain ⟨la2, lc2, g1, _⟩ := H.out.blk
      rw [← hblk] at g1
      obtain ⟨_, c1', _, _⟩ := cells2 g1
      by_cases hp : 0 < x
      · have dp : decide (0 < x) = true := by simpa using hp
        obtain ⟨w', hrun', him', htu'⟩ := hM.put (t := 50) (e := 2) Try.underlying50 Try.underlying3 (by unfold maxLen; omega) hkw (.int .i64 x)
        have hM2 : IMap Try.prog 3 w' m (k + 1) (Fk L (k + 1)) := him'.congr fun j => by rw [hFs j, if_pos hp]
        have hF2 : Fr m w w' := hfr.trans (Fr.turned htu')
        have M2 := Lib.hid hM2
        have F2 := Lib.hid hF2
        clear hM hfr hA hc hFs hblk g1 him' htu' hM2 hF2 hx hp
        go_wp2_with fail
        go_roundw
        case rel => exact ⟨k + 1, by omega, by go_num, M2.out, F2.out⟩
        case measure => simp [intOf]; omega
      · have dp : decide (0 < x) = false := by simpa using hp
        have hM2 : IMap Try.prog 3 wo m (k + 1) (Fk L (k + 1)) := (hM.mono (by omega)).congr fun j => by
          rw [hFs j, if_neg hp]
          by_cases e : j = (k : Int)
          · subst e; rw [if_pos rfl]; unfold Fk; rw [if_neg (by omega)]
          · rw [if_neg e]
        have M2 := Lib.hid hM2
        have F2 := Lib.hid hfr
        clear hM hfr hA hc hFs hblk g1 hM2 hx hp
        go_wp2_with fail
        go_roundw
        case rel => exact ⟨k + 1, by omega, by go_num, M2.out, F2.out⟩
        case measure => simp [intOf]; omega
    · have hk' : k = n := by omega
      subst hk'
      have hT : Tb B wo t m k Lm L := by
        refine H.out.turned hfr (hM.congr fun j => ?_) hl BD.out
        unfold Fk
        by_cases q : j < (k : Int)
        · rw [if_pos q]
        · rw [if_neg q]; exact Fm_out (by rw [HN.out]; omega)
      have HP : Hid (LoadP B w t m cn k Lm E L (.returned (.bool true)) wo) := Lib.hid (P.out wo hT hfr)
      clear hM hfr hT
      go_wp2_with fail
      go_ret
      exact HP.out
theorem load_any {B : Nat} {w : World} {t m cn : Nat} {Lm E : List Int} (h : Tb B w t m cn Lm E) (a : Option Addr) (n c : Nat) (L : List Int) (hL : Ir w a n L) (hnm : ∀ b off, a = some ⟨b, off, none⟩ → 0 < n → b ≠ m) :
    Calls Try.prog 16 #[.pointer (some ⟨t, 0, none⟩), .slice a n c] w (LoadP B w t m cn n Lm E L) := by
  by_cases hl : L.length = Lm.length
  · cases hb : L.any badI with
    | true => exact load_no h a n c L hL (.inr hb)
    | false => exact load_yes h a n c L hL hnm hl hb
  · exact load_no h a n c L hL (.inl hl)
end Go.Proofs.Ytfloceoopjokcaa
