/- An ear: what it has heard. -/
import Derived.Test.YtdlcfnpnfdlahaaP
import Derived.Deep.RegionLaw
import Derived.Deep.DeepCutAuto
import Derived.Deep.MidRow
import Derived.StillTailTactics
namespace Go.Proofs.Ytdlcfnpnfdlahaa
set_option linter.unusedVariables false
open Go.ChangeShapes Go.WideShapes Go.ChangeAt Go.RowKit

/-- The cells of an ear. -/
def earC (C : List Nat) (m : Nat) : Array Value := (bv C ++ [Value.int .i64 (m : Int)]).toArray
theorem zero50 (w : World) : (zeroValue 50).run Try.prog w = .ok (.agg (earC (List.replicate 256 0) 0)) w := by kernel_rfl
theorem earC_size (C : List Nat) (m : Nat) (h : C.length = 256) : (earC C m).size = 257 := by simp [earC, bv_len, h]

/-- An ear that has heard T since the last silence. -/
structure Er (B : Nat) (w : World) (e : Nat) (T : List Nat) : Prop where
  hB : B ≤ e
  ex : ∃ C : List Nat, C.length = 256 ∧ (∀ b ∈ C, b < 256) ∧ w.heap[e]? = some (.cells (earC C (min T.length 257)) 50 (0, 0)) ∧ (T.length ≤ 256 → C.take T.length = T)
/-- Nothing but the ear's block has turned. -/
structure Fr (e : Nat) (w w' : World) : Prop where
  os : w'.os = w.os
  tape : w'.tape = w.tape
  output : w'.output = w.output
  size : w.heap.size ≤ w'.heap.size
  block : ∀ k, k < w.heap.size → k ≠ e → w'.heap[k]? = w.heap[k]?
theorem Fr.of_below {e : Nat} {w w' : World} (h : Below w.heap.size w w') : Fr e w w' := ⟨h.os, h.tape, h.output, h.size, fun k hk _ => h.block k hk⟩
theorem Fr.below {e B : Nat} {w w' : World} (h : Fr e w w') (hB : B ≤ e) (hs : B ≤ w.heap.size) : Below B w w' := ⟨h.os, h.tape, h.output, h.size, fun k hk => h.block k (by omega) (by omega)⟩
theorem Fr.trans {e : Nat} {a b c : World} (h : Fr e a b) (h' : Fr e b c) : Fr e a c :=
  ⟨h'.os.trans h.os, h'.tape.trans h.tape, h'.output.trans h.output, Nat.le_trans h.size h'.size, fun k hk h1 => (h'.block k (Nat.lt_of_lt_of_le hk h.size) h1).trans (h.block k hk h1)⟩
theorem Fr.setCell {e : Nat} {a b : World} (h : Fr e a b) (k : Nat) (v : Value) : Fr e a (b.setCell ⟨e, k, none⟩ v) :=
  ⟨h.os, h.tape, h.output, by simpa using h.size, fun q hq h1 => (Below.heap_setCell _ _ _ _ h1).trans (h.block q hq h1)⟩
theorem Er.below {B e : Nat} {w w' : World} {T : List Nat} (h : Er B w e T) (hb : Below w.heap.size w w') : Er B w' e T := by
  obtain ⟨C, h1, h2, h3, h4⟩ := h.ex
  exact ⟨h.hB, C, h1, h2, (hb.block e (blk_lt h3)).trans h3, h4⟩
theorem Er.lt {B e : Nat} {w : World} {T : List Nat} (h : Er B w e T) : e < w.heap.size := by
  obtain ⟨C, h1, h2, h3, h4⟩ := h.ex
  exact blk_lt h3
theorem Bys.fr {e : Nat} {w w' : World} {a : Option Addr} {len : Nat} {L : List Nat} (h : Bys w a len L) (hb : Fr e w w') (hne : ∀ b off, 0 < len → a = some ⟨b, off, none⟩ → b ≠ e) : Bys w' a len L := by
  refine ⟨h.ln, h.le, h.by', ?_⟩
  rcases h.at' with z | ⟨b, off, ea, hlt, hc⟩
  · exact .inl z
  · by_cases h0 : len = 0
    · exact .inl h0
    · exact .inr ⟨b, off, ea, Nat.lt_of_lt_of_le hlt hb.size, fun i hi => (World.cell?_of_block (a := ⟨b, off + i, none⟩) (hb.block b hlt (hne b off (by omega) ea))).trans (hc i hi)⟩

theorem new_any (w : World) : Calls Try.prog 14 #[] w fun e w' => e = .returned (.pointer (some ⟨w.heap.size, 0, none⟩)) ∧ Er w.heap.size w' w.heap.size [] ∧ Below w.heap.size w w' := by
  have hz := zero50
  have hp : Er w.heap.size (w.alloc (.cells (earC (List.replicate 256 0) 0) 50 (0, 0))) w.heap.size [] ∧ Below w.heap.size w (w.alloc (.cells (earC (List.replicate 256 0) 0) 50 (0, 0))) :=
    ⟨⟨Nat.le_refl _, List.replicate 256 0, List.length_replicate, (by intro b hb; rw [List.mem_replicate] at hb; omega), heap_alloc_new w _, fun _ => rfl⟩, (Below.refl _ _).alloc (Nat.le_refl _) _⟩
  obtain ⟨Z, hZ⟩ : ∃ Z, Z = earC (List.replicate 256 0) 0 := ⟨_, rfl⟩
  rw [← hZ] at hp
  have hz' : ∀ w, (zeroValue 50).run Try.prog w = .ok (.agg Z) w := by rw [hZ]; exact hz
  have HP := Lib.hid hp
  clear hp hz hZ
  go_enter Try.func14, Try.ntmps14
  go_wp2_with fail
  go_ret
  exact ⟨rfl, HP.out⟩

theorem earC_get {w : World} {e : Nat} {C : List Nat} {m : Nat} (hC : C.length = 256) (h : w.heap[e]? = some (.cells (earC C m) 50 (0, 0))) :
    w.cell? ⟨e, 256, none⟩ = some (.int .i64 (m : Int)) ∧ w.frozen? ⟨e, 256, none⟩ = false := by
  constructor
  · simp [World.cell?, h, earC, bv_len, hC, List.getElem_append_right]
  · simp [World.frozen?, h]

theorem many_any {B e : Nat} {w : World} {T : List Nat} (h : Er B w e T) :
    Calls Try.prog 21 #[.pointer (some ⟨e, 0, none⟩)] w fun r w' => r = .returned (.int .i64 (min T.length 257 : Nat)) ∧ w = w' := by
  obtain ⟨C, h1, h2, h3, h4⟩ := h.ex
  obtain ⟨c0, f0⟩ := earC_get h1 h3
  generalize min T.length 257 = m at c0 ⊢
  clear h h2 h3 h4 h1
  go_enter Try.func21, Try.ntmps21
  go_wp2_with fail
  go_ret
  exact ⟨rfl, rfl⟩

theorem earC_set (C : List Nat) (m k : Nat) (h : C.length = 256) : (earC C m).setIfInBounds 256 (.int .i64 (k : Int)) = earC C k := by
  unfold earC
  rw [List.setIfInBounds_toArray, List.set_append_right _ _ (by rw [bv_len, h]; exact Nat.le_refl _), bv_len, h]
  rfl
theorem heap_set_same {w : World} {r k : Nat} {v : Value} {cs : Array Value} {t : TypeId} {fz : Nat × Nat} (h : w.heap[r]? = some (.cells cs t fz)) : (w.setCell ⟨r, k, none⟩ v).heap[r]? = some (.cells (cs.setIfInBounds k v) t fz) := by
  have hlt := blk_lt h
  have h' : w.heap[r] = .cells cs t fz := by simpa [Array.getElem?_eq_getElem hlt] using h
  show (w.heap.modify r _)[r]? = _
  rw [Array.getElem?_eq_getElem (by simpa using hlt), Array.getElem_modify_self, h']
  rfl
def HearP (B : Nat) (w : World) (e : Nat) (T : List Nat) (r : Ending) (w' : World) : Prop := r = .returned (.tuple #[]) ∧ Er B w' e T ∧ Fr e w w'

theorem hear_over {B e : Nat} {w : World} {T : List Nat} (h : Er B w e T) (a : Option Addr) (n cap : Nat) (M : List Nat) (hM : Bys w a n M) (hover : 256 < min T.length 257 + n) (hN : n ≤ 100000000) :
    Calls Try.prog 19 #[.pointer (some ⟨e, 0, none⟩), .slice a n cap] w (HearP B w e (T ++ M)) := by
  have hn := hM.le
  unfold maxLen at hn
  have hl := hM.ln
  obtain ⟨C, h1, h2, h3, h4⟩ := h.ex
  obtain ⟨c0, f0⟩ := earC_get h1 h3
  have hp : HearP B w e (T ++ M) (.returned (.tuple #[])) (w.setCell ⟨e, 256, none⟩ (.int .i64 257)) := by
    refine ⟨rfl, ⟨h.hB, C, h1, h2, ?_, fun hh => ?_⟩, (Fr.of_below (Below.refl _ _)).setCell _ _⟩
    · rw [heap_set_same h3, show min (T ++ M).length 257 = 257 by rw [List.length_append]; omega]
      exact congrArg (fun x => some (Obj.cells x 50 (0, 0))) (earC_set C _ 257 h1)
    · rw [List.length_append] at hh; omega
  have hm : min T.length 257 ≤ 257 := by omega
  generalize min T.length 257 = m at c0 hm hover
  have HP := Lib.hid hp
  have d1 : decide (256 < (m : Int) + (n : Int)) = true := by simp; omega
  clear h hM h2 h3 h4 h1 hp hl
  go_enter Try.func19, Try.ntmps19
  go_wp2_with fail
  first | go_end0 | refine bodyPost_ret (results_none rfl _ _ _) rfl ?_
  exact HP.out

theorem splice_ear (C M : List Nat) (v : Value) (m : Nat) (hC : C.length = 256) (h : m + M.length ≤ 256) : splice (bv C ++ [v]) m (bv M) = bv (splice C m M) ++ [v] := by
  simp only [splice, bv_len]
  rw [List.take_append_of_le_length (by rw [bv_len]; omega), List.drop_append_of_le_length (by rw [bv_len]; omega)]
  simp [bv, List.map_take, List.map_drop]
theorem splice_take (C M : List Nat) (m : Nat) (hC : C.length = 256) (h : m + M.length ≤ 256) : (splice C m M).take (m + M.length) = C.take m ++ M := by
  simp only [splice]
  rw [← List.append_assoc, List.take_append_of_le_length (by simp; omega), List.take_of_length_le (by simp; omega)]

set_option maxRecDepth 100000 in
set_option maxHeartbeats 2000000 in
theorem hear_fit {B e : Nat} {w : World} {T : List Nat} (h : Er B w e T) (a : Option Addr) (n cap : Nat) (M : List Nat) (hM : Bys w a n M) (hfit : T.length + n ≤ 256) (h0 : 0 < n) :
    Calls Try.prog 19 #[.pointer (some ⟨e, 0, none⟩), .slice a n cap] w (HearP B w e (T ++ M)) := by
  have hl := hM.ln
  obtain ⟨C, h1, h2, h3, h4⟩ := h.ex
  have hT := h4 (by omega)
  rw [show min T.length 257 = T.length by omega] at h3
  obtain ⟨c0, f0⟩ := earC_get h1 h3
  obtain ⟨b, off, ea, hlt, hc⟩ := hM.pos h0
  subst ea
  have hsrc : ∀ j v, (bv M)[j]? = some v → w.drew.cell? ((Addr.mk b off none).add j) = some v := by
    intro j v hv
    have hj : j < n := by
      have := (List.getElem?_eq_some_iff.1 hv).1
      rwa [bv_len, hl] at this
    rw [bv_get M j (by rw [hl]; exact hj)] at hv
    rw [addr_add_none, ← hv]
    exact hc j hj
  have HSRC := Lib.hid hsrc
  have d1 : decide (256 < (T.length : Int) + (n : Int)) = false := by simp; omega
  have H3 := Lib.hid h3
  have HC := Lib.hid hc
  have H1 := Lib.hid h1
  have HL := Lib.hid hl
  have HT := Lib.hid hT
  have hB := h.hB
  have H2 := Lib.hid h2
  have HMB := Lib.hid hM.by'
  clear h hM h2 h3 h4 h1 hl hsrc hT hc
  have hm : T.length ≤ 256 := by omega
  have HTL : Hid (T.length = T.length) := Lib.hid rfl
  generalize hm' : T.length = m at *
  have HM := Lib.hid hm'
  clear hm'
  go_enter Try.func19, Try.ntmps19
  go_upto_region 2 with fail
  go_cut [] (fun wx => ∃ w4, w4 = w.drew ∧ wx = w4.setRow e (splice (bv C ++ [.int .i64 (m : Int)]) m (bv M)).toArray)
  case first =>
    refine wp_region_still_tail 9 (by kernel_rfl) (by kernel_rfl) ?_
    simp only [List.take_succ_cons, List.take_zero, List.drop_succ_cons, List.drop_zero]
    have hn1 : (m : Int) ≤ 256 := by omega
    have hn2 : (m : Int) ≤ (Try.prog.arrayLen 48 : Int) := by rw [show Try.prog.arrayLen 48 = 256 by kernel_rfl]; omega
    iterate 9 still_step
    refine wpStill_nil ?_
    refine wpList_copy_own rfl (.tmp 22) (.tmp 23) 22 22 rfl 5 Try.underlying22 (by kernel_rfl) e m (256 - m) (256 - m) ⟨b, off, none⟩ n cap ?q1 rfl (earC C m) 50 H3.out (bv M) ?q2 HSRC.out ?q3 (bv_one _) ?_
    case q1 =>
      show Value.slice (some (if 256 = m then (⟨e, 0, none⟩ : Addr) else ⟨e, m, none⟩)) (256 - m) (256 - m) = _
      rw [if_neg (by omega)]
    case q2 => rw [bv_len, HL.out]; show n = min n (256 - m); omega
    case q3 => rw [bv_len, HL.out, earC_size C m H1.out]; omega
    go_wp2_with fail
    go_meet
    exact ⟨_, rfl, rfl⟩
  case rest =>
    obtain ⟨w4, hw4, hwc⟩ := hcut
    have hMl := HL.out
    have hb4 : w4.heap[e]? = some (.cells (earC C m) 50 (0, 0)) := by rw [hw4]; exact H3.out
    have hbc : wc.heap[e]? = some (.cells (earC (splice C m M) m) 50 (0, 0)) := by
      rw [hwc, setRow_heap w4 e _ _ _ _ hb4, splice_ear C M _ m H1.out (by omega)]
      rfl
    have hSl : (splice C m M).length = 256 := by rw [length_splice _ _ _ (by rw [H1.out]; omega)]; exact H1.out
    obtain ⟨c1, f1⟩ := earC_get hSl hbc
    have hfr : Fr e w wc := by
      rw [hwc, hw4]
      exact ⟨rfl, rfl, rfl, by simp, fun k hk hne => setRow_other w.drew e k _ hne⟩
    have hp : HearP B w e (T ++ M) (.returned (.tuple #[])) (wc.setCell ⟨e, 256, none⟩ (.int .i64 ((m + n : Nat) : Int))) := by
      refine ⟨rfl, ⟨hB, splice C m M, hSl, ?_, ?_, fun _ => ?_⟩, hfr.setCell _ _⟩
      · intro x hx
        simp only [splice, List.mem_append] at hx
        rcases hx with z | z | z
        · exact H2.out x (List.mem_of_mem_take z)
        · exact HMB.out x z
        · exact H2.out x (List.mem_of_mem_drop z)
      · rw [heap_set_same hbc, show min (T ++ M).length 257 = m + n by rw [List.length_append, HM.out]; omega]
        exact congrArg (fun x => some (Obj.cells x 50 (0, 0))) (earC_set _ _ (m + n) hSl)
      · rw [List.length_append, HM.out, splice_take C M m H1.out (by omega), HT.out]
    rw [show ((m + n : Nat) : Int) = (m : Int) + (n : Int) by omega] at hp
    have HP := Lib.hid hp
    clear hp hfr hSl hbc hb4 hwc hw4 H3 HSRC c0 f0 hMl
    go_wp2_with fail
    first | go_end0 | refine bodyPost_ret (results_none rfl _ _ _) rfl ?_
    exact HP.out

theorem hear_nil {B e : Nat} {w : World} {T : List Nat} (h : Er B w e T) (a : Option Addr) (cap : Nat) (hfit : T.length ≤ 256) :
    Calls Try.prog 19 #[.pointer (some ⟨e, 0, none⟩), .slice a 0 cap] w (HearP B w e (T ++ [])) := by
  obtain ⟨C, h1, h2, h3, h4⟩ := h.ex
  rw [show min T.length 257 = T.length by omega] at h3
  obtain ⟨c0, f0⟩ := earC_get h1 h3
  have hm : T.length ≤ 256 := hfit
  have d1 : decide (256 < (T.length : Int)) = false := by simp; omega
  have hp : HearP B w e (T ++ []) (.returned (.tuple #[])) (w.drew.setCell ⟨e, 256, none⟩ (.int .i64 ((T.length : Nat) : Int))) := by
    refine ⟨rfl, ⟨h.hB, C, h1, h2, ?_, fun hh => by simpa using h4 hfit⟩, (Fr.of_below (Below.refl _ _).drew).setCell _ _⟩
    have h3' : w.drew.heap[e]? = some (.cells (earC C T.length) 50 (0, 0)) := h3
    rw [heap_set_same h3', List.append_nil, show min T.length 257 = T.length by omega]
    exact congrArg (fun x => some (Obj.cells x 50 (0, 0))) (earC_set _ _ T.length h1)
  have HP := Lib.hid hp
  have H3 := Lib.hid h3
  clear h h2 h3 h4 hp
  generalize T.length = m at *
  go_enter Try.func19, Try.ntmps19
  go_upto_region 2 with fail
  go_cut [] (fun wx => wx = w.drew)
  case first =>
    refine wp_region_still_tail 9 (by kernel_rfl) (by kernel_rfl) ?_
    simp only [List.take_succ_cons, List.take_zero, List.drop_succ_cons, List.drop_zero]
    have hn1 : (m : Int) ≤ 256 := by omega
    have hn2 : (m : Int) ≤ (Try.prog.arrayLen 48 : Int) := by rw [show Try.prog.arrayLen 48 = 256 by kernel_rfl]; omega
    iterate 9 still_step
    refine wpStill_nil ?_
    refine wpList_copy_nothing rfl (.tmp 22) (.tmp 23) 22 22 rfl 5 Try.underlying22 (by kernel_rfl) _ a (256 - m) (256 - m) 0 cap rfl rfl (by show min 0 (256 - m) = 0; omega) ?_
    go_wp2_with fail
    all_goals
      go_meet
      exact rfl
  case rest =>
    subst hcut
    go_wp2_with fail
    first | go_end0 | refine bodyPost_ret (results_none rfl _ _ _) rfl ?_
    exact HP.out

theorem hear_any {B e : Nat} {w : World} {T : List Nat} (h : Er B w e T) (a : Option Addr) (n cap : Nat) (M : List Nat) (hM : Bys w a n M) (hN : n ≤ 100000000) :
    Calls Try.prog 19 #[.pointer (some ⟨e, 0, none⟩), .slice a n cap] w (HearP B w e (T ++ M)) := by
  by_cases ho : 256 < min T.length 257 + n
  · exact hear_over h a n cap M hM ho hN
  · by_cases h0 : n = 0
    · subst h0
      have := hM.of_zero
      subst this
      exact hear_nil h a cap (by omega)
    · exact hear_fit h a n cap M hM (by omega) (by omega)

/-- What a silence tells. -/
def sil (T : List Nat) : GR := if T = [] then .err 0 else getR T
def SilP (B : Nat) (w : World) (e : Nat) (T : List Nat) (r : Ending) (w' : World) : Prop :=
  Er B w' e [] ∧ Fr e w w' ∧ (match sil T with
    | .err c => r = .returned (.tuple #[.int .u8 0, .slice none 0 0, .int .i64 (c : Nat), .bool (decide (T ≠ []))])
    | .ok u P => ∃ g k, r = .returned (.tuple #[.int .u8 (u : Nat), .slice (some ⟨g, 0, none⟩) P.length k, .int .i64 0, .bool (decide (T ≠ []))]) ∧ OwnB w.heap.size w' g k P.length P)

theorem er_zero {B e : Nat} {w : World} {C : List Nat} {m : Nat} (hB : B ≤ e) (hC : C.length = 256) (hb : ∀ b ∈ C, b < 256) (h : w.heap[e]? = some (.cells (earC C m) 50 (0, 0))) : Er B (w.setCell ⟨e, 256, none⟩ (.int .i64 0)) e [] := by
  refine ⟨hB, C, hC, hb, ?_, fun _ => rfl⟩
  rw [heap_set_same h]
  exact congrArg (fun x => some (Obj.cells x 50 (0, 0))) (earC_set C m 0 hC)

theorem sil_none {B e : Nat} {w : World} (h : Er B w e []) :
    Calls Try.prog 17 #[.pointer (some ⟨e, 0, none⟩)] w (SilP B w e []) := by
  obtain ⟨C, h1, h2, h3, h4⟩ := h.ex
  obtain ⟨c0, f0⟩ := earC_get h1 h3
  have hp : SilP B w e [] (.returned (.tuple #[.int .u8 0, .slice none 0 0, .int .i64 0, .bool false])) (w.setCell ⟨e, 256, none⟩ (.int .i64 0)) :=
    ⟨er_zero h.hB h1 h2 h3, (Fr.of_below (Below.refl _ _)).setCell _ _, rfl⟩
  have HP := Lib.hid hp
  clear hp h h1 h2 h3 h4
  have c0' : w.cell? ⟨e, 256, none⟩ = some (.int .i64 0) := c0
  clear c0
  go_enter Try.func17, Try.ntmps17
  go_wp2_with fail
  refine bodyPost_ret (v := .tuple #[.int .u8 0, .slice none 0 0, .int .i64 0, .bool false]) (by simp [results, Try.results17, go_sem]) rfl HP.out

theorem sil_long {B e : Nat} {w : World} {T : List Nat} (h : Er B w e T) (hl : 256 < T.length) :
    Calls Try.prog 17 #[.pointer (some ⟨e, 0, none⟩)] w (SilP B w e T) := by
  obtain ⟨C, h1, h2, h3, h4⟩ := h.ex
  obtain ⟨c0, f0⟩ := earC_get h1 h3
  have hne : T ≠ [] := by intro e; subst e; simp at hl
  have hs : sil T = .err 22 := by unfold sil getR; rw [if_neg hne, if_pos hl]
  have hp : SilP B w e T (.returned (.tuple #[.int .u8 0, .slice none 0 0, .int .i64 22, .bool true])) (w.setCell ⟨e, 256, none⟩ (.int .i64 0)) :=
    ⟨er_zero h.hB h1 h2 h3, (Fr.of_below (Below.refl _ _)).setCell _ _, by rw [hs]; simp [hne]⟩
  have HP := Lib.hid hp
  rw [show min T.length 257 = 257 by omega] at c0
  clear hp h h1 h2 h3 h4 hne hs hl
  have c0' : w.cell? ⟨e, 256, none⟩ = some (.int .i64 257) := c0
  clear c0
  go_enter Try.func17, Try.ntmps17
  go_wp2_with fail
  refine bodyPost_ret (v := .tuple #[.int .u8 0, .slice none 0 0, .int .i64 22, .bool true]) (by simp [results, Try.results17, go_sem]) rfl HP.out

theorem bys_ear {w : World} {e : Nat} {C T : List Nat} {k : Nat} (hC : C.length = 256) (hb : ∀ b ∈ C, b < 256) (h : w.heap[e]? = some (.cells (earC C k) 50 (0, 0))) (hT : C.take T.length = T) (hl : T.length ≤ 256) : Bys w (some ⟨e, 0, none⟩) T.length T := by
  refine ⟨rfl, by unfold maxLen; omega, fun x hx => hb x (by rw [← hT] at hx; exact List.mem_of_mem_take hx), .inr ⟨e, 0, rfl, blk_lt h, fun i hi => ?_⟩⟩
  have hg : T.getD i 0 = C.getD i 0 := by
    have : (C.take T.length).getD i 0 = C.getD i 0 := by simp only [List.getD]; rw [List.getElem?_take_of_lt hi]
    rw [hT] at this
    exact this
  rw [hg]
  have h2 : (earC C k)[i]? = some (.int .u8 ((C.getD i 0 : Nat) : Int)) := by
    unfold earC
    rw [List.getElem?_toArray, List.getElem?_append_left (by rw [bv_len, hC]; omega), bv_get C i (by omega)]
  simp only [World.cell?, h, Nat.zero_add]
  simpa using h2

theorem sil_in {B e : Nat} {w : World} {T : List Nat} (h : Er B w e T) (hl : T.length ≤ 256) (h0 : T ≠ []) (hBw : B ≤ w.heap.size) :
    Calls Try.prog 17 #[.pointer (some ⟨e, 0, none⟩)] w (SilP B w e T) := by
  obtain ⟨C, h1, h2, h3, h4⟩ := h.ex
  have hT := h4 hl
  rw [show min T.length 257 = T.length by omega] at h3
  obtain ⟨c0, f0⟩ := earC_get h1 h3
  have hpos : 0 < T.length := by
    rcases Nat.eq_zero_or_pos T.length with z | z
    · exact absurd (List.eq_nil_of_length_eq_zero z) h0
    · exact z
  have hz := er_zero h.hB h1 h2 h3
  have hzb : (w.setCell ⟨e, 256, none⟩ (.int .i64 0)).heap[e]? = some (.cells (earC C 0) 50 (0, 0)) := by
    rw [heap_set_same h3]; exact congrArg (fun x => some (Obj.cells x 50 (0, 0))) (earC_set C _ 0 h1)
  have hby := bys_ear h1 h2 hzb hT hl
  have hA : ArgB (w.setCell ⟨e, 256, none⟩ (.int .i64 0)) (some ⟨e, 0, none⟩) T.length 256 T := ⟨hby, (fun e => by cases e), hl, by unfold maxLen; omega⟩
  have hfr : Fr e w (w.setCell ⟨e, 256, none⟩ (.int .i64 0)) := (Fr.of_below (Below.refl _ _)).setCell _ _
  have hsil : sil T = getR T := by unfold sil; rw [if_neg h0]
  have hdec : decide (T ≠ []) = true := by simp [h0]
  have A := Lib.hid hA
  have Z := Lib.hid hz
  have FR := Lib.hid hfr
  have S := Lib.hid hsil
  have DD := Lib.hid hdec
  have d1 : ((T.length : Int) == 0) = false := by simp; exact h0
  have d2 : decide (256 < (T.length : Int)) = false := by simp; omega
  clear h h1 h2 h3 h4 hT hz hzb hby hA hfr hsil hdec h0
  obtain ⟨m, hm⟩ : ∃ m, m = T.length := ⟨_, rfl⟩
  rw [← hm] at c0 d1 d2 A hl hpos
  have HM := Lib.hid hm
  clear hm
  have hn1 : (m : Int) ≤ 256 := by omega
  have hn2 : (m : Int) ≤ (Try.prog.arrayLen 48 : Int) := by rw [show Try.prog.arrayLen 48 = 256 by kernel_rfl]; omega
  go_enter Try.func17, Try.ntmps17
  go_wp2_with fail
  refine (get_any _ m 256 T _ A.out).mono ?_
  rintro r w1 ⟨hb, hif⟩
  have hz1 := Z.out.below hb
  have hf1 := FR.out.trans (Fr.of_below (e := e) hb)
  cases hg : getR T with
  | err c =>
    rw [hg] at hif
    simp only at hif
    subst hif
    have hp : SilP B w e T (.returned (.tuple #[.int .u8 0, .slice none 0 0, .int .i64 (c : Nat), .bool true])) w1 := by
      refine ⟨hz1, hf1, ?_⟩
      rw [S.out, hg, DD.out]
    have HP := Lib.hid hp
    clear hp hg hb hz1 hf1 S DD
    go_wp2_with fail
    refine bodyPost_ret (v := .tuple #[.int .u8 0, .slice none 0 0, .int .i64 (c : Nat), .bool true]) (by simp [results, Try.results17, go_sem]) rfl HP.out
  | ok u P =>
    rw [hg] at hif
    simp only at hif
    obtain ⟨g, k, rfl, ho⟩ := hif
    have ho' : OwnB w.heap.size w1 g k P.length P := by
      have : (w.setCell ⟨e, 256, none⟩ (.int .i64 0)).heap.size = w.heap.size := by simp
      rw [this] at ho
      exact ho
    have hp : SilP B w e T (.returned (.tuple #[.int .u8 (u : Nat), .slice (some ⟨g, 0, none⟩) P.length k, .int .i64 0, .bool true])) w1 := by
      refine ⟨hz1, hf1, ?_⟩
      rw [S.out, hg, DD.out]
      exact ⟨g, k, rfl, ho'⟩
    have HP := Lib.hid hp
    clear hp hg hb hz1 hf1 S DD ho ho'
    go_wp2_with fail
    refine bodyPost_ret (v := .tuple #[.int .u8 (u : Nat), .slice (some ⟨g, 0, none⟩) P.length k, .int .i64 0, .bool true]) (by simp [results, Try.results17, go_sem]) rfl HP.out

theorem sil_any {B e : Nat} {w : World} {T : List Nat} (h : Er B w e T) (hBw : B ≤ w.heap.size) :
    Calls Try.prog 17 #[.pointer (some ⟨e, 0, none⟩)] w (SilP B w e T) := by
  by_cases h0 : T = []
  · subst h0; exact sil_none h
  · by_cases hl : 256 < T.length
    · exact sil_long h hl
    · exact sil_in h (by omega) h0 hBw
end Go.Proofs.Ytdlcfnpnfdlahaa
