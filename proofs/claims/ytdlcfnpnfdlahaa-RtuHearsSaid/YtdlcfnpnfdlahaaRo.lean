/- The document's opening, with what its result owns; the document's Get and Put. -/
import Derived.Test.YtdlcfnpnfdlahaaQT
import Derived.Test.YtdlcfnpnfdlahaaTw
import Derived.Deep.RegionLaw
import Derived.Deep.AppendLies
namespace Go.Proofs.Ytdlcfnpnfdlahaa
set_option linter.unusedVariables false
open Go.ChangeShapes Go.WideShapes Go.ChangeAt Go.RowKit

def ROpenZ (w : World) (f : Nat → Nat) (len : Nat) (e : Ending) (w' : World) : Prop :=
  Below w.heap.size w w' ∧ (if okF f len then ∃ g c, e = .returned (.tuple #[.slice (some ⟨g, 0, none⟩) (len - 2) c, .bool true]) ∧ OwnB w.heap.size w' g c (len - 2) (bl f (len - 2)) else e = .returned (.tuple #[.slice none 0 0, .bool false]))
set_option maxRecDepth 100000 in
set_option maxHeartbeats 2000000 in
theorem ropen_long2 (b off n cap : Nat) (f : Nat → Nat) (w : World) (h : RowB w (some ⟨b, off, none⟩) (n + 2) f) (hf : ∀ i, i < n + 2 → f i < 256) (hcap : n + 2 ≤ cap) (hcm : cap ≤ maxLen) (hlen : n ≤ 100000) :
    Calls Try.prog 23 #[.slice (some ⟨b, off, none⟩) (n + 2) cap] w (ROpenZ w f (n + 2)) := by
  have hcr := crcF_lt f n (fun i hi => hf i (by omega))
  unfold maxLen at hcm
  obtain ⟨b', off', ha, hlt, hc⟩ := h.pos (by omega)
  simp at ha
  obtain ⟨rfl, rfl⟩ := ha
  have hx0 := hf n (by omega)
  have hx1 := hf (n + 1) (by omega)
  have hok : okF f (n + 2) = (decide (f n = crcF f n % 256) && decide (f (n + 1) = crcF f n / 256)) := by simp [okF]
  have H := Lib.hid h
  have HF := Lib.hid hf
  have e0 := hc n (by omega)
  have e1 := hc (n + 1) (by omega)
  have HOK := Lib.hid hok
  clear h hf hc hok
  go_enter Try.func23, Try.ntmps23
  go_wp2_with fail
  refine (rsum_any (some ⟨b, off, none⟩) n cap f _ (H.out.cut (by omega)) (fun i hi => HF.out i (by omega))).mono ?_
  rintro e w1 ⟨rfl, rfl⟩
  generalize hcc : crcF f n = c at hcr ⊢
  rw [hcc] at HOK
  clear hcc
  have hq : okF f (n + 2) = (decide (f n = c % 256) && decide (f (n + 1) = c / 256)) := HOK.out
  clear HOK
  generalize hxx : f n = x at hx0 e0 hq
  generalize hyy : f (n + 1) = y at hx1 e1 hq
  have HQ := Lib.hid hq
  clear hxx hyy hq
  have hno : okF f (n + 2) = false → ROpenZ w f (n + 2) (.returned (.tuple #[.slice none 0 0, .bool false])) w := by
    intro h
    exact ⟨Below.refl _ _, by rw [if_neg (by simp [h])]⟩
  have hb1 : Below w.heap.size w (w.alloc (.cells #[] 5 (0, 0))) := (Below.refl _ _).alloc (Nat.le_refl _) _
  by_cases h1 : x = c % 256
  · have t1' : ((x : Int) != (c : Int) % 256) = false := by rw [h1]; simp
    by_cases h2 : y = c / 256
    · have t2' : ((y : Int) != (c : Int) / 256) = false := by rw [h2]; simp
      have hyes : okF f (n + 2) = true := by rw [HQ.out, h1, h2]; simp
      have HY := Lib.hid hyes
      clear hno hyes h1 h2
      go_wp2_with (at_builtin; refine wpList_append_bysq rfl (.tmp 34) (.tmp 37) rfl w.heap.size _ (by simp) w.heap.size 0 0 [] rfl rfl (own_newq (Nat.le_refl _)) (some ⟨b, off, none⟩) n cap f rfl ((H.out.cut (by omega)).below hb1) (fun e => by cases e) (by omega) ?_)
      intro g1 c1 w2 ho2 hg2
      have hb2 : Below w.heap.size w w2 := hb1.grown hg2 (by simp) (fun k hk => by simp at hk; omega)
      have hfin : ROpenZ w f (n + 2) (.returned (.tuple #[.slice (some ⟨g1, 0, none⟩) n c1, .bool true])) w2 := by
        refine ⟨hb2, ?_⟩
        rw [if_pos HY.out]
        exact ⟨g1, c1, rfl, (show w2.ownsRow w.heap.size 5 1 (.slice (some ⟨g1, 0, none⟩) n c1) n (vals (bl f n)) by simpa using ho2)⟩
      have HFIN := Lib.hid hfin
      clear hfin ho2 hg2 hb2 hb1
      go_wp2_with fail
      go_ret2
      exact HFIN.out
    · have t2' : ((y : Int) != (c : Int) / 256) = true := by simp; omega
      have HNO := Lib.hid (hno (by rw [HQ.out]; simp [h2]))
      clear hno hb1
      go_wp2_with fail
      go_ret2
      exact HNO.out
  · have t1' : ((x : Int) != (c : Int) % 256) = true := by simp; omega
    have HNO := Lib.hid (hno (by rw [HQ.out]; simp [h1]))
    clear hno hb1
    go_wp2_with fail
    go_ret2
    exact HNO.out

def ROpenY (w : World) (L : List Nat) (e : Ending) (w' : World) : Prop :=
  Below w.heap.size w w' ∧ (if okN L = true then ∃ g c, e = .returned (.tuple #[.slice (some ⟨g, 0, none⟩) (L.length - 2) c, .bool true]) ∧ OwnB w.heap.size w' g c (L.length - 2) (L.take (L.length - 2)) else e = .returned (.tuple #[.slice none 0 0, .bool false]))
theorem ropen_y (a : Option Addr) (len cap : Nat) (L : List Nat) (w : World) (h : ArgB w a len cap L) (hl : len ≤ 100000) (h2 : 2 ≤ len) : Calls Try.prog 23 #[.slice a len cap] w (ROpenY w L) := by
  have hn := h.row.ln
  subst hn
  have key : ∀ e w', ROpenZ w (fn L) L.length e w' → ROpenY w L e w' := by
    rintro e w' ⟨hb, hif⟩
    refine ⟨hb, ?_⟩
    unfold okN
    rw [bl_take L _ (by omega)] at hif
    exact hif
  obtain ⟨n, hn⟩ : ∃ n, L.length = n + 2 := ⟨L.length - 2, by omega⟩
  obtain ⟨b, off, rfl, _, _⟩ := h.row.pos (by omega)
  have hr := h.row.q
  have hle := h.le
  rw [hn] at hr hle ⊢
  rw [hn] at key
  exact (ropen_long2 b off n cap (fn L) w hr (fun i _ => getD_lt h.row.by' i) hle h.mx (by omega)).mono key
end Go.Proofs.Ytdlcfnpnfdlahaa
