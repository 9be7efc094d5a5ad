/- Open: what was sealed, or nothing. -/
import Derived.Test.YtdlcfnpnfdlahaaQB
import Derived.Laws.CopyOwn
namespace Go.Proofs.Ytdlcfnpnfdlahaa
set_option linter.unusedVariables false
open Go.ChangeShapes Go.WideShapes Go.ChangeAt Go.RowKit

/-- Is what these bytes say sealed? -/
def okF (f : Nat → Nat) (len : Nat) : Bool := decide (2 ≤ len) && (decide (f (len - 2) = crcF f (len - 2) % 256) && decide (f (len - 2 + 1) = crcF f (len - 2) / 256))

def OpenPost (w : World) (f : Nat → Nat) (len : Nat) (e : Ending) (w' : World) : Prop :=
  Below w.heap.size w w' ∧ (if okF f len then ∃ g, e = .returned (.tuple #[.slice (some ⟨g, 0, none⟩) (len - 2) (len - 2), .bool true]) ∧ OwnR w.heap.size w' g (len - 2) (bl f (len - 2)) else e = .returned (.tuple #[.slice none 0 0, .bool false]))

theorem open_short (a : Option Addr) (len cap : Nat) (f : Nat → Nat) (w : World) (h : len < 2) :
    Calls Try.prog 24 #[.slice a len cap] w (OpenPost w f len) := by
  have hp : OpenPost w f len (.returned (.tuple #[.slice none 0 0, .bool false])) w := by
    refine ⟨Below.refl _ _, ?_⟩
    rw [if_neg (by simp [okF]; omega)]
  have HP := Lib.hid hp
  clear hp
  go_enter Try.func24, Try.ntmps24
  go_wp2_with fail
  go_ret2
  exact HP.out

theorem addr_add_noneq (b off n : Nat) : (Addr.mk b off none).add n = ⟨b, off + n, none⟩ := by
  by_cases h : n = 0
  · subst h; simp [Addr.add]
  · simp [Addr.add, h]

theorem Row.cut {W : World} {a : Option Addr} {len n : Nat} {V : Nat → Value} (h : Row W a len V) (hn : n ≤ len) : Row W a n V := by
  refine ⟨Nat.le_trans hn h.le, ?_⟩
  rcases h.at' with z | ⟨b, off, ha, hlt, hc⟩
  · exact .inl (by omega)
  · exact .inr ⟨b, off, ha, hlt, fun i hi => hc i (by omega)⟩

set_option maxRecDepth 100000 in
set_option maxHeartbeats 2000000 in
theorem open_long (b off n cap : Nat) (f : Nat → Nat) (w : World) (h : RowB w (some ⟨b, off, none⟩) (n + 2) f) (hf : ∀ i, i < n + 2 → f i < 256) (hcap : n + 2 ≤ cap) (hcm : cap ≤ maxLen) (hlen : n ≤ 100000) :
    Calls Try.prog 24 #[.slice (some ⟨b, off, none⟩) (n + 2) cap] w (OpenPost w f (n + 2)) := by
  have hcr := crcF_lt f n (fun i hi => hf i (by omega))
  unfold maxLen at hcm
  obtain ⟨b', off', ha, hlt, hc⟩ := h.pos (by omega)
  simp at ha
  obtain ⟨rfl, rfl⟩ := ha
  have hx0 := hf n (by omega)
  have hx1 := hf (n + 1) (by omega)
  have hok : okF f (n + 2) = (decide (f n = crcF f n % 256) && decide (f (n + 1) = crcF f n / 256)) := by simp [okF]
  have H := Lib.hid h
  have HF := Lib.hid hf
  have HC := Lib.hid hc
  have HOK := Lib.hid hok
  clear h hf hc hok
  obtain ⟨ti, hi, hz0, hz1, hz2⟩ := info_parts info5q
  go_enter Try.func24, Try.ntmps24
  go_wp2_with fail
  refine (sum_any (some ⟨b, off, none⟩) n cap f _ (H.out.cut (by omega)) (fun i hi => HF.out i (by omega))).mono ?_
  rintro e w1 ⟨rfl, hb⟩
  have e0 := (hb.cell (p := ⟨b, off + n, none⟩) hlt).trans (HC.out n (by omega))
  have e1 := (hb.cell (p := ⟨b, off + (n + 1), none⟩) hlt).trans (HC.out (n + 1) (by omega))
  generalize hcc : crcF f n = c at hcr ⊢
  rw [hcc] at HOK
  clear hcc
  have hq : okF f (n + 2) = (decide (f n = c % 256) && decide (f (n + 1) = c / 256)) := HOK.out
  clear HOK
  generalize hxx : f n = x at hx0 e0 hq
  generalize hyy : f (n + 1) = y at hx1 e1 hq
  have HXX := Lib.hid hxx
  have HYY := Lib.hid hyy
  have HQ := Lib.hid hq
  have HB := Lib.hid hb
  have hbs := hb.size
  clear hxx hyy hq hb
  have hno : okF f (n + 2) = false → OpenPost w f (n + 2) (.returned (.tuple #[.slice none 0 0, .bool false])) w1 := by
    intro h
    exact ⟨HB.out, by rw [if_neg (by simp [h])]⟩
  by_cases h1 : x = c % 256
  · have t1 : ((x : Int) == (c : Int) % 256) = true := by rw [h1]; simp
    have t1' : ((x : Int) != (c : Int) % 256) = false := by rw [h1]; simp
    by_cases h2 : y = c / 256
    · have t2 : ((y : Int) == (c : Int) / 256) = true := by rw [h2]; simp
      have t2' : ((y : Int) != (c : Int) / 256) = false := by rw [h2]; simp
      have hyes : okF f (n + 2) = true := by rw [HQ.out, h1, h2]; simp
      have HY := Lib.hid hyes
      clear hno hyes h1 h2
      go_wp2_with (at_make; refine wpList_make_full _ rfl (.tmp 34) (.tmp 34) 22 rfl w.heap.size 5 ti (.int .u8 0) 1 Try.underlying22 hi hz0 hz1 .i64 .i64 _ _ n rfl rfl ?c1 ?c2 ?c3 ?c4 hbs ?_)
      case c1 => simp
      case c2 => simp
      case c3 => rw [hz2]; omega
      case c4 => unfold maxLen; omega
      intro w2 ho2 hg2
      have hb2 : Below w.heap.size w w2 := HB.out.grown hg2 hbs (fun k hk => by cases hk)
      obtain ⟨_, ⟨hv, _⟩ | ⟨g', cap', cur, hv, hgB, hgb, hgl, hgm, hgs, hgt⟩⟩ := ho2
      · simp at hv
      simp only [Value.slice.injEq, Option.some.injEq, Addr.mk.injEq, true_and, and_true] at hv
      obtain ⟨hv1, hv2⟩ := hv
      have hgb' : w2.heap[w1.heap.size]? = some (.cells cur.toList.toArray 5 (0, 0)) := by rw [hv1]; simpa using hgb
      have hcl : cur.toList.length = n := by rw [hv2]; simpa using hgs
      have HB2 := Lib.hid hb2
      have HGB := Lib.hid hgb'
      clear hb2 hgb hgb' hgt hg2 hgs hgl hgm hgB hv1 hv2
      have hsrc : ∀ j v, (vals (bl f n))[j]? = some v → w2.cell? ((Addr.mk b off none).add j) = some v := by
        intro j u hu
        have hj : j < n := by
          have := (List.getElem?_eq_some_iff.1 hu).1
          rw [vals_len, bl_len] at this
          exact this
        have h1 := (HB2.out.cell (p := ⟨b, off + j, none⟩) hlt).trans (HC.out j (by omega))
        have h2 : (vals (bl f n))[j]? = some (.int .u8 ((f j : Nat) : Int)) := by simp [vals, bl, hj]
        rw [h2] at hu
        simp at hu
        subst hu
        by_cases h0 : j = 0
        · subst h0; simpa [Addr.add] using h1
        · simpa [Addr.add, h0] using h1
      have HSRC := Lib.hid hsrc
      clear hsrc
      go_wp2_with (with_reducible refine wpList_copy_splice rfl (.tmp 36) (.tmp 37) 22 22 rfl 5 Try.underlying22 (by kernel_rfl) (some ⟨w1.heap.size, 0, none⟩) (some ⟨b, off, none⟩) n n (n + 2) cap rfl rfl w1.heap.size 0 cur.toList 5 HGB.out (vals (bl f n)) ?k1 ?k2 ?k3 (vals_one _) w.heap.size w HB2.out hbs ?_)
      case k1 => rw [vals_len, bl_len]; simp
      case k2 =>
        intro _ j u hu
        have := HSRC.out j u hu
        rwa [addr_add_noneq] at this
      case k3 => rw [vals_len, bl_len, hcl]; omega
      intro w3 hgb3 hb3
      have hsp : splice cur.toList 0 (vals (bl f n)) = vals (bl f n) := by
        simp only [splice, List.take_zero, List.nil_append, Nat.zero_add]
        rw [vals_len, bl_len, List.drop_of_length_le (by rw [hcl]; exact Nat.le_refl _), List.append_nil]
      have hgb4 := hgb3.out
      rw [hsp] at hgb4
      have hfin : OpenPost w f (n + 2) (.returned (.tuple #[.slice (some ⟨w1.heap.size, 0, none⟩) n n, .bool true])) w3 := by
        refine ⟨hb3, ?_⟩
        rw [if_pos HY.out]
        refine ⟨w1.heap.size, rfl, ?_⟩
        have : OwnR w.heap.size w3 w1.heap.size n (bl f n) := by
          refine ⟨by rw [vals_len]; omega, .inr ⟨_, n, _, by rw [bl_len], hbs, hgb4, by rw [bl_len]; exact Nat.le_refl _, by unfold maxLen; omega, by simp [vals_len, bl_len], ?_⟩⟩
          rw [List.take_of_length_le (by simp [vals_len])]
        exact this
      have HFIN := Lib.hid hfin
      clear hfin hgb4 hgb3 hb3 hsp HSRC HGB HB2 hcl
      go_wp2_with fail
      go_ret2
      exact HFIN.out
    · have t2 : ((y : Int) == (c : Int) / 256) = false := by simp; omega
      have t2' : ((y : Int) != (c : Int) / 256) = true := by simp; omega
      have HNO := Lib.hid (hno (by rw [HQ.out]; simp [h2]))
      clear hno
      go_wp2_with fail
      go_ret2
      exact HNO.out
  · have t1 : ((x : Int) == (c : Int) % 256) = false := by simp; omega
    have t1' : ((x : Int) != (c : Int) % 256) = true := by simp; omega
    have HNO := Lib.hid (hno (by rw [HQ.out]; simp [h1]))
    clear hno
    go_wp2_with fail
    go_ret2
    exact HNO.out
end Go.Proofs.Ytdlcfnpnfdlahaa
