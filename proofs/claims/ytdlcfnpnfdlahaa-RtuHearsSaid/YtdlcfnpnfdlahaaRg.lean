/- The document's Get. -/
import Derived.Test.YtdlcfnpnfdlahaaRo
namespace Go.Proofs.Ytdlcfnpnfdlahaa
set_option linter.unusedVariables false
open Go.ChangeShapes Go.WideShapes Go.ChangeAt Go.RowKit

/-- What Get says, of a result of whatever room. -/
def RGetP (w : World) (L : List Nat) (e : Ending) (w' : World) : Prop :=
  Below w.heap.size w w' ∧ (match getR L with
    | .err c => e = .returned (.tuple #[.int .u8 0, .slice none 0 0, .int .i64 (c : Nat)])
    | .ok u P => ∃ g k, e = .returned (.tuple #[.int .u8 (u : Nat), .slice (some ⟨g, 0, none⟩) P.length k, .int .i64 0]) ∧ Bys w' (some ⟨g, 0, none⟩) P.length P ∧ w.heap.size ≤ g)

theorem rget_err (a : Option Addr) (len cap : Nat) (L : List Nat) (w : World) (h : ArgB w a len cap L) (hl : 256 < len ∨ len < 4) :
    Calls Try.prog 11 #[.slice a len cap] w (RGetP w L) := by
  have hl' := h.row.le
  unfold maxLen at hl'
  have hn := h.row.ln
  by_cases h1 : 256 < len
  · have hr : getR L = .err 22 := by unfold getR; rw [hn, if_pos h1]
    have hp : RGetP w L (.returned (.tuple #[.int .u8 0, .slice none 0 0, .int .i64 22])) w := ⟨Below.refl _ _, by rw [hr]; rfl⟩
    have HP := Lib.hid hp
    have d1 : decide (256 < (len : Int)) = true := by simp; omega
    clear h hp hr hn hl
    go_enter Try.func11, Try.ntmps11
    go_wp2_with fail
    go_ret3
    exact HP.out
  · have hr : getR L = .err 21 := by unfold getR; rw [hn, if_neg h1, if_pos (by omega)]
    have hp : RGetP w L (.returned (.tuple #[.int .u8 0, .slice none 0 0, .int .i64 21])) w := ⟨Below.refl _ _, by rw [hr]; rfl⟩
    have HP := Lib.hid hp
    have d1 : decide (256 < (len : Int)) = false := by simp; omega
    have d2 : decide ((len : Int) < 4) = true := by simp; omega
    clear h hp hr hn hl
    go_enter Try.func11, Try.ntmps11
    go_wp2_with fail
    go_ret3
    exact HP.out

theorem row_bys {W : World} {a : Option Addr} {n : Nat} {L : List Nat} (h : RowB W a n (fun i => L.getD i 0)) (hn : L.length = n) (hb : ∀ b ∈ L, b < 256) : Bys W a n L := ⟨hn, h.le, hb, h.at'⟩

set_option maxRecDepth 100000 in
set_option maxHeartbeats 2000000 in
theorem rget_in (a : Option Addr) (len cap : Nat) (L : List Nat) (w : World) (h : ArgB w a len cap L) (h1 : len ≤ 256) (h4 : 4 ≤ len) :
    Calls Try.prog 11 #[.slice a len cap] w (RGetP w L) := by
  have hn := h.row.ln
  have hr : getR L = if okN L = true then .ok (L.getD 0 0) ((L.drop 1).take (L.length - 3)) else .err 23 := by unfold getR; rw [if_neg (by omega), if_neg (by omega)]
  have d1 : decide (256 < (len : Int)) = false := by simp; omega
  have d2 : decide ((len : Int) < 4) = false := by simp; omega
  have H := Lib.hid h
  have HR := Lib.hid hr
  have HN := Lib.hid hn
  clear h hr hn
  go_enter Try.func11, Try.ntmps11
  go_wp2_with fail
  refine (ropen_y a len cap L _ H.out (by omega) (by omega)).mono ?_
  rintro e w1 ⟨hb, hif⟩
  have HB := Lib.hid hb
  have hs := hb.size
  cases hok : okN L with
  | false =>
    rw [hok, if_neg (by simp)] at hif
    subst hif
    have hp : RGetP w L (.returned (.tuple #[.int .u8 0, .slice none 0 0, .int .i64 23])) w1 := ⟨hb, by rw [HR.out, hok, if_neg (by simp)]; rfl⟩
    have HP := Lib.hid hp
    clear hp hok hb
    go_wp2_with fail
    go_ret3
    exact HP.out
  | true =>
    rw [hok, if_pos rfl] at hif
    obtain ⟨g, xc, rfl, ho⟩ := hif
    rw [HN.out] at ho ⊢
    have hr2 := HR.out
    rw [hok, if_pos rfl, HN.out] at hr2
    have hby := ho.bys (fun b hb => H.out.row.by' b (List.mem_of_mem_take hb))
    have hxc : len - 2 ≤ xc ∧ xc ≤ maxLen := by obtain ⟨_, _, _, _, h1, h2, _⟩ := ho.at; exact ⟨h1, h2⟩
    obtain ⟨hx1, hx2⟩ := hxc
    unfold maxLen at hx2
    have hsub := hby.sub 1 (len - 3) (by omega)
    have hP : ((L.take (len - 2)).drop 1).take (len - 3) = (L.drop 1).take (len - 3) := by
      rw [List.drop_take, List.take_take]; congr 1; omega
    rw [hP] at hsub
    obtain ⟨b0, o0, e0, hlt0, hc0⟩ := hby.pos (by omega)
    simp only [Option.some.injEq, Addr.mk.injEq, and_true] at e0
    obtain ⟨rfl, rfl⟩ := e0
    have C0 := hc0 0 (by omega)
    have hx0 : (L.take (len - 2)).getD 0 0 = L.getD 0 0 := by
      simp only [List.getD]; rw [List.getElem?_take_of_lt (by omega)]
    rw [hx0] at C0
    have hp : ∀ w' g' k, w.heap.size ≤ g' → Below w.heap.size w w' → Bys w' (some ⟨g', 0, none⟩) (len - 3) ((L.drop 1).take (len - 3)) → RGetP w L (.returned (.tuple #[.int .u8 (L.getD 0 0 : Nat), .slice (some ⟨g', 0, none⟩) (len - 3) k, .int .i64 0])) w' := by
      intro w' g' k hgg hb' hh
      have hl : ((L.drop 1).take (len - 3)).length = len - 3 := by rw [List.length_take, List.length_drop, HN.out]; omega
      refine ⟨hb', ?_⟩
      rw [hr2]
      exact ⟨g', k, by rw [hl], by rw [hl]; exact hh, hgg⟩
    have HP := Lib.hid hp
    generalize L.getD 0 0 = x0 at C0 HP
    have HS := Lib.hid hsub
    generalize (L.drop 1).take (len - 3) = P at HP HS
    have c0 : w1.cell? ⟨g, 0, none⟩ = some (.int .u8 (x0 : Int)) := C0
    have hnews : ∀ W, Below w1.heap.size w1 W → ∀ j u, (bv P)[j]? = some u → W.cell? ((⟨g, 1, none⟩ : Addr).add j) = some u := by
      intro W hW j u hu
      have hj : j < len - 3 := by
        have := (List.getElem?_eq_some_iff.1 hu).1
        rwa [bv_len, HS.out.ln] at this
      rw [bv_get P j (by rw [HS.out.ln]; exact hj)] at hu
      obtain ⟨b', off', e, _, hc⟩ := (HS.out.below hW).pos (by omega)
      simp only [Option.some.injEq, Addr.mk.injEq, and_true] at e
      obtain ⟨rfl, rfl⟩ := e
      rw [addr_add_none, ← hu]
      have := hc j hj
      simpa using this
    have HNW := Lib.hid hnews
    have hlP := HS.out.ln
    have HLP := Lib.hid hlP
    clear hok hb ho hr2 hby hsub hP hc0 C0 hx0 hp hnews hlP
    have i0 : 0 < len - 2 := by omega
    have i1 : (1 : Int) ≤ ((len - 2 : Nat) : Int) := by omega
    have i2 : ¬ xc = 1 := by omega
    obtain ⟨ti, hi, hz0, hz1, hz2⟩ := info_parts info5
    have hbig : Below w1.heap.size w1 ((w1.alloc (.cells #[] 5 (0, 0))).drew) := ((Below.refl _ _).alloc (Nat.le_refl _) _).drew
    have HBG := Lib.hid hbig
    clear hbig
    go_wp2_with fail
    go_region_law (refine step_append_lies _ rfl (.tmp 23) (.tmp 25) 22 rfl w1.heap.size 5 ti (.int .u8 0) 1 1 Try.underlying22 hi hz0 hz1 hz2 rfl (by decide) (.slice (some ⟨w1.heap.size, 0, none⟩) 0 0) 0 (bv []) rfl (own_new (Nat.le_refl w1.heap.size)) ⟨g, 1, none⟩ (len - 2 - 1) (xc - 1) (bv P) rfl (by rw [bv_len, HLP.out]; omega) (HNW.out _ HBG.out) (bv_one _) (by omega) (by unfold maxLen; omega) (by omega) (by simp) (w1.heap.size + 1) (by simp) ?_; intro g' k' w' ho' hg' _ _; have c0' : w'.cell? ⟨g, 0, none⟩ = some (.int .u8 (x0 : Int)) := (World.cell?_of_block (a := ⟨g, 0, none⟩) (hg'.block g (by simp; omega) (by simp [Value.ownBlock]; omega))).trans ((HBG.out.cell (p := ⟨g, 0, none⟩) hlt0).trans c0))
    all_goals
      have hb3 : Below w1.heap.size w1 w' := HBG.out.grown hg' (by simp) (fun k hk => by simp [Value.ownBlock] at hk; omega)
      have hl3 : 0 + (len - 2 - 1) = len - 3 := by omega
      rw [hl3] at ho'
      have hby' : Bys w' (some ⟨g', 0, none⟩) (len - 3) P := by
        have h1 : OwnB w1.heap.size w' g' k' (len - 3) P := by
          have h2 := ho'
          rw [show bv [] ++ bv P = bv P from rfl] at h2
          exact h2
        exact h1.bys HS.out.by'
      have hgg : w1.heap.size ≤ g' := (ho'.lt g' rfl).1
      have HFIN := Lib.hid (HP.out w' g' k' (by omega) (HB.out.trans (hb3.mono hs)) hby')
      rw [show len - 2 - 1 = len - 3 by omega]
      clear hb3 hl3 ho' hby' hg' HS HNW hgg
      go_wp2_with fail
      go_ret3
      exact HFIN.out

theorem rget_any (a : Option Addr) (len cap : Nat) (L : List Nat) (w : World) (h : ArgB w a len cap L) : Calls Try.prog 11 #[.slice a len cap] w (RGetP w L) := by
  by_cases hl : 256 < len ∨ len < 4
  · exact rget_err a len cap L w h hl
  · exact rget_in a len cap L w h (by omega) (by omega)
end Go.Proofs.Ytdlcfnpnfdlahaa
