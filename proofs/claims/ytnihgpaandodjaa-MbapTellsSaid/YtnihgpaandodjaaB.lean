/- First: the frame that bytes begin with. -/
import Derived.Test.YtnihgpaandodjaaA
import Derived.Test.YtnihgpaandodjaaBytes
namespace Go.Proofs.Ytnihgpaandodjaa
set_option linter.unusedVariables false
open Go.ChangeShapes Go.WideShapes Go.ChangeAt Go.RowKit

theorem Bys.row {W : World} {a : Option Addr} {len : Nat} {L : List Nat} (h : Bys W a len L) : RowB W a len (fun i => L.getD i 0) := ⟨h.le, h.at'⟩

theorem cells3 {w : World} {b : Nat} {t : TypeId} {x y z : Value} (h : w.heap[b]? = some (.cells #[x, y, z] t (0, 0))) :
    w.cell? ⟨b, 0, none⟩ = some x ∧ w.cell? ⟨b, 1, none⟩ = some y ∧ w.cell? ⟨b, 2, none⟩ = some z ∧ w.frozen? ⟨b, 0, none⟩ = false ∧ w.frozen? ⟨b, 1, none⟩ = false ∧ w.frozen? ⟨b, 2, none⟩ = false := by
  simp [World.cell?, World.frozen?, h]
theorem or_bytes16 (x y : Nat) (hx : x < 256) (hy : y < 256) : bits .or .u16 ((x : Int) * 256) (y : Int) = ((256 * x + y : Nat) : Int) := by
  have h1 : (256 * x) ||| y = 256 * x + y := by
    have := Nat.two_pow_add_eq_or_of_lt (i := 8) (b := y) (by omega) x
    simpa using this.symm
  have e : (x : Int) * 256 = ((256 * x : Nat) : Int) := by omega
  rw [e]
  have g1 : (BitVec.ofInt 16 ((256 * x : Nat) : Int)).toNat = 256 * x := by
    rw [BitVec.ofInt_natCast, BitVec.toNat_ofNat]; exact Nat.mod_eq_of_lt (by omega)
  have g2 : (BitVec.ofInt 16 (y : Int)).toNat = y := by
    rw [BitVec.ofInt_natCast, BitVec.toNat_ofNat]; exact Nat.mod_eq_of_lt (by omega)
  show IntKind.u16.wrap ((BitVec.ofInt 16 ((256 * x : Nat) : Int) ||| BitVec.ofInt 16 (y : Int)).toNat : Int) = _
  rw [BitVec.toNat_or, g1, g2, h1]
  simp [IntKind.wrap, IntKind.bits, IntKind.signed]
  omega
theorem heap_set_other {w : World} {r k q : Nat} {v : Value} (h : q ≠ r) : (w.setCell ⟨r, k, none⟩ v).heap[q]? = w.heap[q]? := Below.heap_setCell _ _ _ _ h
abbrev gL (L : List Nat) (i : Nat) : Nat := L.getD i 0
/-- What bytes begin with. -/
inductive FR where
  | bad
  | more
  | frame (id u : Nat) (P : List Nat)
def firstR (L : List Nat) : FR :=
  if mayF (fun i => L.getD i 0) L.length = false then .bad
  else if L.length < 6 ∨ L.length < 6 + folF (fun i => L.getD i 0) then .more
  else .frame (256 * L.getD 0 0 + L.getD 1 0) (L.getD 6 0) ((L.drop 7).take (folF (fun i => L.getD i 0) - 1))
def FirstP (w : World) (L : List Nat) (e : Ending) (w' : World) : Prop :=
  Below w.heap.size w w' ∧
  (match firstR L with
   | .bad => e = .returned (.tuple #[.agg #[.int .u16 0, .int .u8 0, .slice none 0 0], .int .i64 0, .int .i64 31])
   | .more => e = .returned (.tuple #[.agg #[.int .u16 0, .int .u8 0, .slice none 0 0], .int .i64 0, .int .i64 0])
   | .frame id u P => ∃ g, e = .returned (.tuple #[.agg #[.int .u16 (id : Nat), .int .u8 (u : Nat), .slice (some ⟨g, 0, none⟩) P.length P.length], .int .i64 ((P.length + 7 : Nat) : Int), .int .i64 0]) ∧ w.heap.size ≤ g ∧ w'.heap[g]? = some (.cells (bv P).toArray 5 (0, 0)))

set_option maxRecDepth 100000 in
set_option maxHeartbeats 2000000 in
theorem first_bad (a : Option Addr) (len cap : Nat) (L : List Nat) (w : World) (h : Bys w a len L) (hm : mayF (fun i => L.getD i 0) len = false) :
    Calls Try.prog 11 #[.slice a len cap] w (FirstP w L) := by
  have hF : firstR L = .bad := by unfold firstR; rw [h.ln, hm]; simp
  have hp : ∀ w', Below w.heap.size w w' → FirstP w L (.returned (.tuple #[.agg #[.int .u16 0, .int .u8 0, .slice none 0 0], .int .i64 0, .int .i64 31])) w' := by
    intro w' hb; unfold FirstP; rw [hF]; exact ⟨hb, rfl⟩
  have HP := Lib.hid hp
  have H := Lib.hid h
  have HM := Lib.hid hm
  have hl := h.le
  unfold maxLen at hl
  clear hp h hm hF
  go_enter Try.func11, Try.ntmps11
  go_wp2_with fail
  refine (may_any a len cap (fun i => L.getD i 0) _ ((H.out.below (by go_grown)).row) (fun i _ => getD_lt H.out.by' i)).mono ?_
  rintro e w1 ⟨rfl, hb⟩
  rw [HM.out]
  have hb' : Below w.heap.size w w1 := Below.trans (by go_grown) (hb.mono (by simp))
  have HB := Lib.hid hb'
  obtain ⟨c0, c1, c2, f0, f1, f2⟩ := cells3 ((hb.block w.heap.size (by simp)).trans (heap_alloc_new w _))
  have hlt : w.heap.size < w1.heap.size := Nat.lt_of_lt_of_le (by simp) hb.size
  clear hb hb'
  go_wp2_with fail
  exact bodyPost_ret (v := .tuple #[.agg #[.int .u16 0, .int .u8 0, .slice none 0 0], .int .i64 0, .int .i64 31]) (by simp [results, Try.results11, go_sem, c0, c1, c2]) rfl (HP.out _ (((HB.out.setCell (Nat.le_refl _) _).setCell (Nat.le_refl _) _).setCell (Nat.le_refl _) _))

set_option maxRecDepth 100000 in
set_option maxHeartbeats 2000000 in
theorem first_more (a : Option Addr) (len cap : Nat) (L : List Nat) (w : World) (h : Bys w a len L) (hm : mayF (fun i => L.getD i 0) len = true) (hs : len < 6 ∨ len < 6 + folF (fun i => L.getD i 0)) :
    Calls Try.prog 11 #[.slice a len cap] w (FirstP w L) := by
  have hF : firstR L = .more := by unfold firstR; rw [h.ln, hm, if_neg (by simp), if_pos hs]
  have hp : ∀ w', Below w.heap.size w w' → FirstP w L (.returned (.tuple #[.agg #[.int .u16 0, .int .u8 0, .slice none 0 0], .int .i64 0, .int .i64 0])) w' := by
    intro w' hb; unfold FirstP; rw [hF]; exact ⟨hb, rfl⟩
  have HP := Lib.hid hp
  have H := Lib.hid h
  have HM := Lib.hid hm
  have hl := h.le
  unfold maxLen at hl
  clear hp h hm hF
  go_enter Try.func11, Try.ntmps11
  go_wp2_with fail
  refine (may_any a len cap (fun i => L.getD i 0) _ ((H.out.below (by go_grown)).row) (fun i _ => getD_lt H.out.by' i)).mono ?_
  rintro e w1 ⟨rfl, hb⟩
  rw [HM.out]
  have hb' : Below w.heap.size w w1 := Below.trans (by go_grown) (hb.mono (by simp))
  have HB := Lib.hid hb'
  obtain ⟨c0, c1, c2, f0, f1, f2⟩ := cells3 ((hb.block w.heap.size (by simp)).trans (heap_alloc_new w _))
  have hlt : w.heap.size < w1.heap.size := Nat.lt_of_lt_of_le (by simp) hb.size
  clear hb hb'
  by_cases h6 : len < 6
  · have d6 : decide ((len : Int) < 6) = true := by simp; omega
    clear hs
    go_wp2_with fail
    exact bodyPost_ret (v := .tuple #[.agg #[.int .u16 0, .int .u8 0, .slice none 0 0], .int .i64 0, .int .i64 0]) (by simp [results, Try.results11, go_sem, c0, c1, c2]) rfl (HP.out _ (((HB.out.setCell (Nat.le_refl _) _).setCell (Nat.le_refl _) _).setCell (Nat.le_refl _) _))
  · have d6 : decide ((len : Int) < 6) = false := by simp; omega
    have hs' : len < 6 + (256 * L.getD 4 0 + L.getD 5 0) := by rcases hs with z | z; · omega
                                                               · exact z
    have l4 := getD_lt H.out.by' 4
    have l5 := getD_lt H.out.by' 5
    obtain ⟨b, off, rfl, hlb, hc⟩ := (H.out.below HB.out).pos (by omega)
    have C4 := Lib.hid (hc 4 (by omega))
    have C5 := Lib.hid (hc 5 (by omega))
    clear hs hc
    generalize L.getD 4 0 = x4 at *
    generalize L.getD 5 0 = x5 at *
    go_wp2_with fail
    refine (follows_any b off len cap x4 x5 _ (by omega) C4.out C5.out l4 l5).mono ?_
    rintro e w2 ⟨rfl, rfl⟩
    have d7 : decide ((len : Int) < 6 + ((256 * x4 + x5 : Nat) : Int)) = true := by simp; omega
    have hx : ((256 * x4 + x5 : Nat) : Int) ≤ 100000 := by omega
    have hx0 : (0 : Int) ≤ ((256 * x4 + x5 : Nat) : Int) := by omega
    generalize ((256 * x4 + x5 : Nat) : Int) = X at *
    go_wp2_with fail
    exact bodyPost_ret (v := .tuple #[.agg #[.int .u16 0, .int .u8 0, .slice none 0 0], .int .i64 0, .int .i64 0]) (by simp [results, Try.results11, go_sem, c0, c1, c2]) rfl (HP.out _ (((HB.out.drew.setCell (Nat.le_refl _) _).setCell (Nat.le_refl _) _).setCell (Nat.le_refl _) _))

theorem may_fol {L : List Nat} {len : Nat} (h : mayF (fun i => L.getD i 0) len = true) (h6 : 6 ≤ len) : 2 ≤ 256 * L.getD 4 0 + L.getD 5 0 ∧ 256 * L.getD 4 0 + L.getD 5 0 ≤ 254 := by
  simp only [mayF, folF, Bool.and_eq_true, Bool.or_eq_true, decide_eq_true_eq] at h
  obtain ⟨_, h⟩ := h
  rcases h with h | h
  · omega
  · simpa using h

set_option maxRecDepth 100000 in
set_option maxHeartbeats 2000000 in
theorem first_frame (a : Option Addr) (len cap : Nat) (L : List Nat) (w : World) (h : Bys w a len L) (hcap : len ≤ cap) (hcm : cap ≤ maxLen) (hm : mayF (fun i => L.getD i 0) len = true) (h6 : 6 ≤ len) (hs : 6 + folF (fun i => L.getD i 0) ≤ len) :
    Calls Try.prog 11 #[.slice a len cap] w (FirstP w L) := by
  have hF : firstR L = .frame (256 * L.getD 0 0 + L.getD 1 0) (L.getD 6 0) ((L.drop 7).take (folF (fun i => L.getD i 0) - 1)) := by
    unfold firstR; rw [h.ln, hm, if_neg (by simp), if_neg (by omega)]
  have hfol := may_fol hm h6
  have hlp : ((L.drop 7).take (folF (fun i => L.getD i 0) - 1)).length = folF (fun i => L.getD i 0) - 1 := by rw [List.length_take, List.length_drop, h.ln]; omega
  have hp : ∀ w' g, Below w.heap.size w w' → w.heap.size ≤ g → w'.heap[g]? = some (.cells (bv ((L.drop 7).take (folF (fun i => L.getD i 0) - 1))).toArray 5 (0, 0)) → FirstP w L (.returned (.tuple #[.agg #[.int .u16 (256 * L.getD 0 0 + L.getD 1 0 : Nat), .int .u8 (L.getD 6 0 : Nat), .slice (some ⟨g, 0, none⟩) (folF (fun i => L.getD i 0) - 1) (folF (fun i => L.getD i 0) - 1)], .int .i64 ((folF (fun i => L.getD i 0) - 1 + 7 : Nat) : Int), .int .i64 0])) w' := by
    intro w' g hb hg hh; unfold FirstP; rw [hF]; refine ⟨hb, g, ?_, hg, hh⟩; rw [hlp]
  have hfm : folF (fun i => L.getD i 0) = 256 * L.getD 4 0 + L.getD 5 0 := rfl
  rw [hfm] at hp hs hlp
  have HP := Lib.hid hp
  have H := Lib.hid h
  have HM := Lib.hid hm
  have hl := h.le
  unfold maxLen at hl hcm
  have l4 := getD_lt h.by' 4
  have l5 := getD_lt h.by' 5
  have l0 := getD_lt h.by' 0
  have l1 := getD_lt h.by' 1
  have l6 := getD_lt h.by' 6
  clear hp h hm hF hfm
  obtain ⟨ti, hi, hz0, hz1, hz2⟩ := info_parts info5
  go_enter Try.func11, Try.ntmps11
  go_wp2_with fail
  refine (may_any a len cap (fun i => L.getD i 0) _ ((H.out.below (by go_grown)).row) (fun i _ => getD_lt H.out.by' i)).mono ?_
  rintro e w1 ⟨rfl, hb⟩
  rw [HM.out]
  have hb' : Below w.heap.size w w1 := Below.trans (by go_grown) (hb.mono (by simp))
  have HB := Lib.hid hb'
  have hblk := (hb.block w.heap.size (by simp)).trans (heap_alloc_new w _)
  have hlt : w.heap.size < w1.heap.size := Nat.lt_of_lt_of_le (by simp) hb.size
  have HBLK := Lib.hid hblk
  clear hb hb' hblk
  have d6 : decide ((len : Int) < 6) = false := by simp; omega
  have H1 := Lib.hid (H.out.below HB.out)
  obtain ⟨b, off, rfl, hlb, hc⟩ := H1.out.pos (by omega)
  have C4 := Lib.hid (hc 4 (by omega))
  have C5 := Lib.hid (hc 5 (by omega))
  have C0 := Lib.hid (hc 0 (by omega))
  have C1 := Lib.hid (hc 1 (by omega))
  have C6 := Lib.hid (hc 6 (by omega))
  have HSUB := Lib.hid (H1.out.sub 7 (256 * L.getD 4 0 + L.getD 5 0 - 1) (by omega))
  clear hc
  generalize (L.drop 7).take (256 * L.getD 4 0 + L.getD 5 0 - 1) = P at *
  generalize L.getD 4 0 = x4 at *
  generalize L.getD 5 0 = x5 at *
  generalize L.getD 0 0 = x0 at *
  generalize L.getD 1 0 = x1 at *
  generalize L.getD 6 0 = x6 at *
  have k0 := fun w => follows_any b off len cap x4 x5 w (by omega)
  generalize hM : 256 * x4 + x5 = m at *
  have HM' := Lib.hid hM
  have K0 := Lib.hid k0
  clear hM k0
  go_wp2_with fail
  refine (K0.out _ C4.out C5.out l4 l5).mono ?_
  rintro e w2 ⟨rfl, rfl⟩
  have d7 : decide ((len : Int) < 6 + (m : Int)) = false := by simp; omega
  go_wp2_with fail
  refine (K0.out w1.drew C4.out C5.out l4 l5).mono ?_
  rintro e w2 ⟨rfl, rfl⟩
  go_wp2_with (at_make; refine wpList_make_full _ rfl (.tmp 28) (.tmp 28) 23 rfl w.heap.size 5 ti (.int .u8 0) 1 Try.underlying23 hi hz0 hz1 .i64 .i64 _ _ (m - 1) rfl rfl ?c1 ?c2 ?c3 ?c4 HB.out.drew.drew.size ?_)
  case c1 => omega
  case c2 => omega
  case c3 => rw [hz2]; omega
  case c4 => unfold maxLen; omega
  intro w2 ho2 hg2
  have hs2 := HB.out.size
  have hb2 : Below w1.heap.size w1 w2 := (((Below.refl _ _).drew).drew).grown hg2 (Nat.le_refl _) (fun k hk => by cases hk)
  obtain ⟨_, ⟨hv, _⟩ | ⟨g', cap', cur, hv, hgB, hgb, hgl, hgm, hgs, hgt⟩⟩ := ho2
  · simp at hv
  simp only [Value.slice.injEq, Option.some.injEq, Addr.mk.injEq, true_and, and_true] at hv
  obtain ⟨hv1, hv2⟩ := hv
  have hgb' : w2.heap[w1.heap.size]? = some (.cells cur.toList.toArray 5 (0, 0)) := by rw [show w1.heap.size = g' from hv1]; simpa using hgb
  have hcl : cur.toList.length = m - 1 := by rw [hv2]; simpa using hgs
  have hsub2 : Bys w2 (some ⟨b, off + 7, none⟩) (m - 1) P := HSUB.out.below hb2
  have HB2 := Lib.hid hb2
  have HGB := Lib.hid hgb'
  have HS2 := Lib.hid hsub2
  have hPl := hsub2.ln
  have HPL := Lib.hid hPl
  clear hb2 hgb hgb' hgt hg2 hgs hgl hgm hgB hv1 hv2 hsub2 hPl hlp
  go_wp2_with (with_reducible refine wpList_copy_splice rfl (.tmp 30) (.tmp 33) 23 23 rfl 5 Try.underlying23 (by kernel_rfl) (some ⟨w1.heap.size, 0, none⟩) (some ⟨b, off + 7, none⟩) (m - 1) (m - 1) (6 + m - 7) (cap - 7) rfl rfl w1.heap.size 0 cur.toList 5 HGB.out (bv P) ?k1 ?k2 ?k3 (bv_one _) w1.heap.size w1 HB2.out (Nat.le_refl _) ?_)
  case k1 => rw [bv_len, HPL.out]; show m - 1 = min (6 + m - 7) (m - 1); omega
  case k2 =>
    intro _ j u hu
    have hj : j < m - 1 := by
      have := (List.getElem?_eq_some_iff.1 hu).1
      rwa [bv_len, HPL.out] at this
    rw [bv_get P j (by rw [HPL.out]; exact hj)] at hu
    obtain ⟨b', off', e, _, hc⟩ := HS2.out.pos (by omega)
    simp only [Option.some.injEq, Addr.mk.injEq, and_true] at e
    obtain ⟨rfl, rfl⟩ := e
    rw [← hu]
    exact hc j hj
  case k3 => rw [bv_len, HPL.out, hcl]; omega
  intro w3 hgb3 hb3
  have hsp : splice cur.toList 0 (bv P) = bv P := by
    simp only [splice, List.take_zero, List.nil_append, Nat.zero_add]
    rw [List.drop_of_length_le (by rw [hcl, bv_len, HPL.out]; exact Nat.le_refl _), List.append_nil]
  have hgb4 := hgb3.out
  rw [hsp] at hgb4
  have hblk3 := (hb3.block w.heap.size hlt).trans HBLK.out
  obtain ⟨c0, c1, c2, f0, f1, f2⟩ := cells3 hblk3
  have hrow3 : ∀ k, w3.cell? ⟨b, k, none⟩ = w1.cell? ⟨b, k, none⟩ := fun k => hb3.cell (p := ⟨b, k, none⟩) hlb
  have e0 : w3.cell? ⟨b, off, none⟩ = _ := (hrow3 (off + 0)).trans C0.out
  have e1 := (hrow3 (off + 1)).trans C1.out
  have e6 := (hrow3 (off + 6)).trans C6.out
  have HB3 := Lib.hid (HB.out.trans (hb3.mono hs2))
  have HG3 := Lib.hid hgb4
  have i0 : 0 < len := by omega
  have i1 : (1 : Int) < (len : Int) := by omega
  have i6 : (6 : Int) < (len : Int) := by omega
  clear hgb4 hgb3 hb3 hsp hrow3 hblk3 HS2 HGB HB2 hcl
  go_wp2_with fail
  go_region
  all_goals
    rw [or_bytes16 x0 x1 l0 l1]
    have hfin := HP.out ((((w3.setCell ⟨w.heap.size, 0, none⟩ (.int .u16 ((256 * x0 + x1 : Nat) : Int))).setCell ⟨w.heap.size, 1, none⟩ (.int .u8 (x6 : Int))).setCell ⟨w.heap.size, 2, none⟩ (.slice (some ⟨w1.heap.size, 0, none⟩) (m - 1) (m - 1))).drew) w1.heap.size (((HB3.out.setCell (Nat.le_refl _) _).setCell (Nat.le_refl _) _).setCell (Nat.le_refl _) _).drew hs2 (by
      show (((w3.setCell ⟨w.heap.size, 0, none⟩ _).setCell ⟨w.heap.size, 1, none⟩ _).setCell ⟨w.heap.size, 2, none⟩ _).heap[w1.heap.size]? = _
      rw [heap_set_other (by omega), heap_set_other (by omega), heap_set_other (by omega)]; exact HG3.out)
    have HFIN := Lib.hid hfin
    clear hfin
    generalize hX : ((256 * x0 + x1 : Nat) : Int) = X at HFIN ⊢
    have hn : ((m - 1 + 7 : Nat) : Int) = 6 + (m : Int) := by omega
    rw [hn] at HFIN
    clear hX hn
    go_wp2_with fail
    exact bodyPost_ret (v := .tuple #[.agg #[.int .u16 X, .int .u8 (x6 : Int), .slice (some ⟨w1.heap.size, 0, none⟩) (m - 1) (m - 1)], .int .i64 (6 + (m : Int)), .int .i64 0]) (by simp [results, Try.results11, go_sem, c0, c1, c2]) rfl HFIN.out

/-- First, of whatever bytes. -/
theorem first_any (a : Option Addr) (len cap : Nat) (L : List Nat) (w : World) (h : Bys w a len L) (hcap : len ≤ cap) (hcm : cap ≤ maxLen) :
    Calls Try.prog 11 #[.slice a len cap] w (FirstP w L) := by
  cases hm : mayF (fun i => L.getD i 0) len with
  | false => exact first_bad a len cap L w h hm
  | true =>
    by_cases hs : len < 6 ∨ len < 6 + folF (fun i => L.getD i 0)
    · exact first_more a len cap L w h hm hs
    · exact first_frame a len cap L w h hcap hcm hm (by omega) (by omega)
end Go.Proofs.Ytnihgpaandodjaa
