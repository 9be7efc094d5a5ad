/- Sums and seals, said of lists of bytes; frames. -/
import Derived.Test.YtdlcfnpnfdlahaaQBits
import Derived.Test.YtdlcfnpnfdlahaaBytes
namespace Go.Proofs.Ytdlcfnpnfdlahaa
set_option linter.unusedVariables false
open Go.ChangeShapes Go.WideShapes Go.ChangeAt Go.RowKit

abbrev fn (L : List Nat) : Nat → Nat := fun i => L.getD i 0
theorem bl_fn (L : List Nat) : bl (fn L) L.length = L := by
  refine List.ext_getElem? fun i => ?_
  by_cases h : i < L.length
  · simp [bl, fn, h, List.getD]
  · simp [bl, h]
theorem bl_take (L : List Nat) (n : Nat) (h : n ≤ L.length) : bl (fn L) n = L.take n := by
  refine List.ext_getElem? fun i => ?_
  by_cases hi : i < n
  · rw [List.getElem?_take_of_lt hi]
    have : i < L.length := by omega
    simp [bl, fn, hi, List.getD, this]
  · rw [List.getElem?_take_eq_none (by omega)]
    simp [bl, hi]

/-- Bytes, and their sum behind them. -/
def sealN (L : List Nat) : List Nat := L ++ [crcF (fn L) L.length % 256, crcF (fn L) L.length / 256]
theorem sealN_eq (L : List Nat) : sealL (fn L) L.length = sealN L := by unfold sealL sealN; rw [bl_fn]
theorem sealN_len (L : List Nat) : (sealN L).length = L.length + 2 := by simp [sealN]
theorem sealN_by {L : List Nat} (h : ∀ b ∈ L, b < 256) : ∀ b ∈ sealN L, b < 256 := by
  have hc := crcF_lt (fn L) L.length (fun i _ => getD_lt h i)
  intro b hb
  unfold sealN at hb
  rcases List.mem_append.1 hb with z | z
  · exact h b z
  · simp at z; omega
/-- Are they sealed? -/
def okN (L : List Nat) : Bool := okF (fn L) L.length
theorem okN_seal (L : List Nat) : okN (sealN L) = true := by
  unfold okN
  rw [sealN_len, ← sealN_eq]
  exact sF_ok (fn L) L.length
theorem seal_okN {L : List Nat} (h : okN L = true) : 2 ≤ L.length ∧ sealN (L.take (L.length - 2)) = L := by
  have h2 : 2 ≤ L.length := by
    unfold okN okF at h
    simp at h
    exact h.1
  refine ⟨h2, ?_⟩
  obtain ⟨n, hn⟩ : ∃ n, L.length = n + 2 := ⟨L.length - 2, by omega⟩
  unfold okN at h
  rw [hn] at h
  have hs := seal_open (fn L) n h
  rw [show L.length - 2 = n by omega, ← bl_take L n (by omega)]
  have e := sealN_eq (bl (fn L) n)
  rw [bl_len] at e
  rw [← e]
  have : bl (fn L) (n + 2) = L := by rw [← hn]; exact bl_fn L
  rw [this] at hs
  exact hs

theorem Bys.q {W : World} {a : Option Addr} {len : Nat} {L : List Nat} (h : Bys W a len L) : RowB W a len (fn L) := ⟨h.le, h.at'⟩
theorem ArgB.q {W : World} {a : Option Addr} {len cap : Nat} {L : List Nat} (h : ArgB W a len cap L) : Arg W a len cap (fn L) := ⟨h.row.q, fun i _ => getD_lt h.row.by' i, h.nil, h.le, h.mx⟩

def SealQ (w : World) (L : List Nat) (e : Ending) (w' : World) : Prop := ∃ g, e = .returned (.slice (some ⟨g, 0, none⟩) (L.length + 2) (L.length + 2)) ∧ OwnB w.heap.size w' g (L.length + 2) (L.length + 2) (sealN L) ∧ Below w.heap.size w w'
theorem seal_q (a : Option Addr) (len cap : Nat) (L : List Nat) (w : World) (h : ArgB w a len cap L) (hl : len ≤ 100000) : Calls Try.prog 25 #[.slice a len cap] w (SealQ w L) := by
  refine (seal_any a len cap (fn L) w h.row.q (fun i _ => getD_lt h.row.by' i) h.nil hl).mono ?_
  rintro e w1 ⟨g, he, ho, hb⟩
  have hn := h.row.ln
  subst hn
  rw [sealN_eq] at he ho
  rw [sealN_len] at he
  refine ⟨g, he, ?_, hb⟩
  have : OwnB w.heap.size w1 g (sealN L).length (sealN L).length (sealN L) := ho
  rwa [sealN_len] at this

def OpenQ (w : World) (L : List Nat) (e : Ending) (w' : World) : Prop :=
  Below w.heap.size w w' ∧ (if okN L = true then ∃ g, e = .returned (.tuple #[.slice (some ⟨g, 0, none⟩) (L.length - 2) (L.length - 2), .bool true]) ∧ OwnB w.heap.size w' g (L.length - 2) (L.length - 2) (L.take (L.length - 2)) else e = .returned (.tuple #[.slice none 0 0, .bool false]))
theorem open_q (a : Option Addr) (len cap : Nat) (L : List Nat) (w : World) (h : ArgB w a len cap L) (hl : len ≤ 100000) : Calls Try.prog 24 #[.slice a len cap] w (OpenQ w L) := by
  refine (open_any a len cap (fn L) w h.q hl).mono ?_
  rintro e w1 ⟨hb, hif⟩
  have hn := h.row.ln
  subst hn
  refine ⟨hb, ?_⟩
  unfold okN
  by_cases hok : okF (fn L) L.length = true
  · rw [if_pos hok] at hif ⊢
    obtain ⟨g, he, ho⟩ := hif
    rw [bl_take L _ (by omega)] at ho
    refine ⟨g, he, ?_⟩
    have : OwnB w.heap.size w1 g (L.length - 2) (L.take (L.length - 2)).length (L.take (L.length - 2)) := ho
    rwa [List.length_take, Nat.min_eq_left (by omega)] at this
  · rw [if_neg hok] at hif ⊢
    exact hif

/-- What a frame's bytes have: an error, or a unit and bytes. -/
inductive GR where
  | err (c : Nat)
  | ok (u : Nat) (P : List Nat)
def getR (L : List Nat) : GR :=
  if 256 < L.length then .err 22 else if L.length < 4 then .err 21 else if okN L = true then .ok (L.getD 0 0) ((L.drop 1).take (L.length - 3)) else .err 23
def GetP (w : World) (L : List Nat) (e : Ending) (w' : World) : Prop :=
  Below w.heap.size w w' ∧ (match getR L with
    | .err c => e = .returned (.tuple #[.int .u8 0, .slice none 0 0, .int .i64 (c : Nat)])
    | .ok u P => ∃ g k, e = .returned (.tuple #[.int .u8 (u : Nat), .slice (some ⟨g, 0, none⟩) P.length k, .int .i64 0]) ∧ OwnB w.heap.size w' g k P.length P)

theorem get_err (a : Option Addr) (len cap : Nat) (L : List Nat) (w : World) (h : ArgB w a len cap L) (hl : 256 < len ∨ len < 4) :
    Calls Try.prog 10 #[.slice a len cap] w (GetP w L) := by
  have hl' := h.row.le
  unfold maxLen at hl'
  have hn := h.row.ln
  by_cases h1 : 256 < len
  · have hr : getR L = .err 22 := by unfold getR; rw [hn, if_pos h1]
    have hp : GetP w L (.returned (.tuple #[.int .u8 0, .slice none 0 0, .int .i64 22])) w := ⟨Below.refl _ _, by rw [hr]; rfl⟩
    have HP := Lib.hid hp
    have d1 : decide (256 < (len : Int)) = true := by simp; omega
    clear h hp hr hn hl
    go_enter Try.func10, Try.ntmps10
    go_wp2_with fail
    go_ret3
    exact HP.out
  · have hr : getR L = .err 21 := by unfold getR; rw [hn, if_neg h1, if_pos (by omega)]
    have hp : GetP w L (.returned (.tuple #[.int .u8 0, .slice none 0 0, .int .i64 21])) w := ⟨Below.refl _ _, by rw [hr]; rfl⟩
    have HP := Lib.hid hp
    have d1 : decide (256 < (len : Int)) = false := by simp; omega
    have d2 : decide ((len : Int) < 4) = true := by simp; omega
    clear h hp hr hn hl
    go_enter Try.func10, Try.ntmps10
    go_wp2_with fail
    go_ret3
    exact HP.out

set_option maxRecDepth 100000 in
set_option maxHeartbeats 2000000 in
theorem get_in (a : Option Addr) (len cap : Nat) (L : List Nat) (w : World) (h : ArgB w a len cap L) (h1 : len ≤ 256) (h4 : 4 ≤ len) :
    Calls Try.prog 10 #[.slice a len cap] w (GetP w L) := by
  have hn := h.row.ln
  have hr : getR L = if okN L = true then .ok (L.getD 0 0) ((L.drop 1).take (L.length - 3)) else .err 23 := by unfold getR; rw [if_neg (by omega), if_neg (by omega)]
  have d1 : decide (256 < (len : Int)) = false := by simp; omega
  have d2 : decide ((len : Int) < 4) = false := by simp; omega
  have H := Lib.hid h
  have HR := Lib.hid hr
  have HN := Lib.hid hn
  clear h hr hn
  obtain ⟨ti, hi, hz0, hz1, hz2⟩ := info_parts info5
  go_enter Try.func10, Try.ntmps10
  go_wp2_with fail
  refine (open_q a len cap L _ H.out (by omega)).mono ?_
  rintro e w1 ⟨hb, hif⟩
  by_cases hok : okN L = true
  · rw [if_pos hok] at hif
    obtain ⟨g, rfl, ho⟩ := hif
    rw [HN.out] at ho ⊢
    have hr2 := HR.out
    rw [if_pos hok, HN.out] at hr2
    have hp : ∀ w' g', Below w.heap.size w w' → w.heap.size ≤ g' → w'.heap[g']? = some (.cells (bv ((L.drop 1).take (len - 3))).toArray 5 (0, 0)) → GetP w L (.returned (.tuple #[.int .u8 (L.getD 0 0 : Nat), .slice (some ⟨g', 0, none⟩) (len - 3) (len - 3), .int .i64 0])) w' := by
      intro w' g' hb' hg hh
      have hl : ((L.drop 1).take (len - 3)).length = len - 3 := by rw [List.length_take, List.length_drop, HN.out]; omega
      refine ⟨hb', ?_⟩
      rw [hr2]
      refine ⟨g', len - 3, by rw [hl], ?_⟩
      have := own_of_block (L := (L.drop 1).take (len - 3)) hg (by rw [hl]; unfold maxLen; omega) hh
      rw [hl] at this ⊢
      exact this
    have HP := Lib.hid hp
    have hs := hb.size
    have HB := Lib.hid hb
    have hby := ho.bys (fun b hb => H.out.row.by' b (List.mem_of_mem_take hb))
    have hsub := hby.sub 1 (len - 3) (by omega)
    have hP : ((L.take (len - 2)).drop 1).take (len - 3) = (L.drop 1).take (len - 3) := by
      rw [List.drop_take, List.take_take]; congr 1; omega
    rw [hP] at hsub
    have HS := Lib.hid hsub
    obtain ⟨b0, o0, e0, hlt0, hc0⟩ := hby.pos (by omega)
    simp only [Option.some.injEq, Addr.mk.injEq, and_true] at e0
    obtain ⟨rfl, rfl⟩ := e0
    have C0 := hc0 0 (by omega)
    have hx0 : (L.take (len - 2)).getD 0 0 = L.getD 0 0 := by
      simp only [List.getD]; rw [List.getElem?_take_of_lt (by omega)]
    rw [hx0] at C0
    generalize L.getD 0 0 = x0 at C0 HP
    generalize (L.drop 1).take (len - 3) = P at HP HS
    have hPl := HS.out.ln
    have HPL := Lib.hid hPl
    have hC0 : w1.cell? ⟨g, 0, none⟩ = some (.int .u8 (x0 : Int)) := C0
    have CC := Lib.hid hC0
    clear hok hr2 hp hb ho hby hsub hP hc0 C0 hx0 hPl hC0
    go_wp2_with (at_make; refine wpList_make_full _ rfl (.tmp 23) (.tmp 23) 22 rfl w1.heap.size 5 ti (.int .u8 0) 1 Try.underlying22 hi hz0 hz1 .i64 .i64 _ _ (len - 3) rfl rfl ?c1 ?c2 ?c3 ?c4 (Nat.le_refl _) ?_)
    case c1 => omega
    case c2 => omega
    case c3 => rw [hz2]; omega
    case c4 => unfold maxLen; omega
    intro w2 ho2 hg2
    have hb2 : Below w1.heap.size w1 w2 := (Below.refl _ _).grown hg2 (Nat.le_refl _) (fun k hk => by cases hk)
    obtain ⟨_, ⟨hv, _⟩ | ⟨g', cap', cur, hv, hgB, hgb, hgl, hgm, hgs, hgt⟩⟩ := ho2
    · simp at hv
    simp only [Value.slice.injEq, Option.some.injEq, Addr.mk.injEq, true_and, and_true] at hv
    obtain ⟨hv1, hv2⟩ := hv
    have hgb' : w2.heap[w1.heap.size]? = some (.cells cur.toList.toArray 5 (0, 0)) := by rw [show w1.heap.size = g' from hv1]; simpa using hgb
    have hcl : cur.toList.length = len - 3 := by rw [hv2]; simpa using hgs
    have hsub2 : Bys w2 (some ⟨g, 0 + 1, none⟩) (len - 3) P := HS.out.below hb2
    have HB2 := Lib.hid hb2
    have HGB := Lib.hid hgb'
    have HS2 := Lib.hid hsub2
    clear hb2 hgb hgb' hgt hg2 hgs hgl hgm hgB hv1 hv2 hsub2
    go_wp2_with (with_reducible refine wpList_copy_splice rfl (.tmp 25) (.tmp 27) 22 22 rfl 5 Try.underlying22 (by kernel_rfl) (some ⟨w1.heap.size, 0, none⟩) (some ⟨g, 1, none⟩) (len - 3) (len - 3) (len - 2 - 1) (len - 2 - 1) rfl rfl w1.heap.size 0 cur.toList 5 HGB.out (bv P) ?k1 ?k2 ?k3 (bv_one _) w1.heap.size w1 HB2.out (Nat.le_refl _) ?_)
    case k1 => rw [bv_len, HPL.out]; show len - 3 = min (len - 2 - 1) (len - 3); omega
    case k2 =>
      intro _ j u hu
      have hj : j < len - 3 := by
        have := (List.getElem?_eq_some_iff.1 hu).1
        rwa [bv_len, HPL.out] at this
      rw [bv_get P j (by rw [HPL.out]; exact hj)] at hu
      obtain ⟨b', off', e, _, hc⟩ := HS2.out.pos (by omega)
      simp only [Option.some.injEq, Addr.mk.injEq, and_true] at e
      obtain ⟨rfl, rfl⟩ := e
      rw [← hu]
      have := hc j hj
      simpa using this
    case k3 => rw [bv_len, HPL.out, hcl]; omega
    intro w3 hgb3 hb3
    have hsp : splice cur.toList 0 (bv P) = bv P := by
      simp only [splice, List.take_zero, List.nil_append, Nat.zero_add]
      rw [List.drop_of_length_le (by rw [hcl, bv_len, HPL.out]; exact Nat.le_refl _), List.append_nil]
    have hgb4 := hgb3.out
    rw [hsp] at hgb4
    have e0 := (hb3.cell (p := ⟨g, 0, none⟩) hlt0).trans CC.out
    have i0 : 0 < len - 2 := by omega
    have HFIN := Lib.hid (HP.out w3 w1.heap.size (HB.out.trans (hb3.mono hs)) hs hgb4)
    clear hgb4 hgb3 hb3 hsp HS2 HGB HB2 hcl CC HS
    go_wp2_with fail
    go_ret3
    exact HFIN.out
  · rw [if_neg hok] at hif
    subst hif
    have hp : GetP w L (.returned (.tuple #[.int .u8 0, .slice none 0 0, .int .i64 23])) w1 := ⟨hb, by rw [HR.out, if_neg hok]; rfl⟩
    have HP := Lib.hid hp
    clear hp hok hb
    go_wp2_with fail
    go_ret3
    exact HP.out

theorem get_any (a : Option Addr) (len cap : Nat) (L : List Nat) (w : World) (h : ArgB w a len cap L) : Calls Try.prog 10 #[.slice a len cap] w (GetP w L) := by
  by_cases hl : 256 < len ∨ len < 4
  · exact get_err a len cap L w h hl
  · exact get_in a len cap L w h (by omega) (by omega)
end Go.Proofs.Ytdlcfnpnfdlahaa
