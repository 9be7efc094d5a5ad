/- Seal: what is sealed is new memory. -/
import Derived.Test.YtdlcfnpnfdlahaaQS
import Derived.WalkSmall
namespace Go.Proofs.Ytdlcfnpnfdlahaa
set_option linter.unusedVariables false
open Go.ChangeShapes Go.WideShapes Go.ChangeAt Go.RowKit

def vals (L : List Nat) : List Value := L.map fun (x : Nat) => Value.int .u8 (x : Int)
theorem vals_len (L : List Nat) : (vals L).length = L.length := by simp [vals]
theorem vals_one (L : List Nat) : ∀ u ∈ vals L, u.oneCell' = true := by
  intro u hu; simp only [vals, List.mem_map] at hu; obtain ⟨x, _, rfl⟩ := hu; rfl
theorem vals_app (L M : List Nat) : vals (L ++ M) = vals L ++ vals M := by simp [vals]

abbrev OwnR (B : Nat) (w : World) (g cap : Nat) (L : List Nat) : Prop := w.ownsRow B 5 1 (.slice (some ⟨g, 0, none⟩) L.length cap) L.length (vals L)

theorem OwnR.at {B : Nat} {w : World} {g cap : Nat} {L : List Nat} (h : OwnR B w g cap L) : ∃ cur, B ≤ g ∧ w.heap[g]? = some (.cells cur 5 (0, 0)) ∧ L.length ≤ cap ∧ cap ≤ maxLen ∧ cur.size = cap ∧ cur.toList.take L.length = vals L := by
  obtain ⟨_, ⟨hv, _⟩ | ⟨g', cap', cur, hv, hg, hb, hl, hm, hs, ht⟩⟩ := h
  · simp at hv
  · simp at hv
    obtain ⟨rfl, rfl⟩ := hv
    exact ⟨cur, hg, hb, hl, hm, by simpa using hs, by simpa using ht⟩

theorem OwnR.bys {B : Nat} {w : World} {g cap : Nat} {L : List Nat} (h : OwnR B w g cap L) : RowB w (some ⟨g, 0, none⟩) L.length (fun i => L.getD i 0) := by
  obtain ⟨cur, hg, hb, hl, hm, hs, ht⟩ := h.at
  refine ⟨by omega, .inr ⟨g, 0, rfl, ?_, fun i hi => ?_⟩⟩
  · rcases Nat.lt_or_ge g w.heap.size with h' | h'
    · exact h'
    · simp [Array.getElem?_eq_none h'] at hb
  · have : (cur.toList.take L.length)[i]? = (vals L)[i]? := by rw [ht]
    rw [List.getElem?_take_of_lt hi] at this
    simp only [World.cell?, hb, Nat.zero_add]
    have hc : cur[i]? = some (.int .u8 ((L.getD i 0 : Nat) : Int)) := by
      rw [← Array.getElem?_toList, this]
      simp [vals, List.getD, hi]
    simpa using hc

theorem OwnR.below {B : Nat} {w w' : World} {g cap : Nat} {L : List Nat} (h : OwnR B w g cap L) (hb : Below w.heap.size w w') : OwnR B w' g cap L := by
  obtain ⟨cur, hg, hbk, hl, hm, hs, ht⟩ := h.at
  have hlt : g < w.heap.size := by
    rcases Nat.lt_or_ge g w.heap.size with h' | h'
    · exact h'
    · simp [Array.getElem?_eq_none h'] at hbk
  exact ⟨by rw [vals_len]; omega, .inr ⟨g, cap, cur, rfl, hg, (hb.block g hlt).trans hbk, hl, hm, by simpa using hs, by simpa using ht⟩⟩

theorem info5q : (Try.prog.info? 5).map (fun i => (i.zero, i.size, i.bytes)) = some (some (.int .u8 0), 1, 1) := by kernel_rfl

def bl (f : Nat → Nat) (len : Nat) : List Nat := (List.range len).map f
theorem bl_len (f : Nat → Nat) (len : Nat) : (bl f len).length = len := by simp [bl]
def sealL (f : Nat → Nat) (len : Nat) : List Nat := bl f len ++ [crcF f len % 256, crcF f len / 256]
theorem sealL_len (f : Nat → Nat) (len : Nat) : (sealL f len).length = len + 2 := by simp [sealL, bl]

def SealPost (w : World) (L : List Nat) (e : Ending) (w' : World) : Prop := ∃ g, e = .returned (.slice (some ⟨g, 0, none⟩) L.length L.length) ∧ OwnR w.heap.size w' g L.length L ∧ Below w.heap.size w w'

set_option maxRecDepth 100000 in
set_option maxHeartbeats 2000000 in
theorem seal_any (a : Option Addr) (len cap : Nat) (f : Nat → Nat) (w : World) (h : RowB w a len f) (hf : ∀ i, i < len → f i < 256) (hn : a = none → len = 0 ∧ cap = 0) (hlen : len ≤ 100000) :
    Calls Try.prog 25 #[.slice a len cap] w (SealPost w (sealL f len)) := by
  have hcr := crcF_lt f len hf
  have H := Lib.hid h
  have HF := Lib.hid hf
  have HN := Lib.hid hn
  clear h hf hn
  obtain ⟨ti, hi, hz0, hz1, hz2⟩ := info_parts info5q
  go_enter Try.func25, Try.ntmps25
  go_wp2_with fail
  refine (sum_any a len cap f _ H.out HF.out).mono ?_
  rintro e w1 ⟨rfl, hb⟩
  go_wp2_with (at_make; refine wpList_make_own _ rfl _ (.tmp 9) 22 rfl w.heap.size 5 ti (.int .u8 0) 1 Try.underlying22 hi hz0 hz1 .i64 .i64 _ (len + 2) rfl rfl ?c1 ?c2 ?c3 hb.size ?_)
  case c1 => simp
  case c2 => rw [hz2]; omega
  case c3 => unfold maxLen; omega
  intro w2 ho2 hg2
  have hb2 : Below w.heap.size w w2 := hb.grown hg2 hb.size (fun k hk => by cases hk)
  have HO2 := Lib.hid ho2
  have HB2 := Lib.hid hb2
  clear ho2 hb2 hg2
  generalize w1.heap.size = G at HO2 ⊢
  clear hb
  go_wp2_with (at_builtin; refine wpList_append_fits_any _ rfl (.tmp 11) (.tmp 12) 22 rfl w.heap.size 5 ti 1 Try.underlying22 hi hz1 G 0 (len + 2) [] rfl HO2.out a len cap (vals (bl f len)) rfl ?d1 HN.out ?d2 (vals_one _) (by omega) ?_)
  case d1 => rw [vals_len, bl_len]; omega
  case d2 =>
    intro ad had j u hu
    have hj : j < len := by
      have := (List.getElem?_eq_some_iff.1 hu).1
      rw [vals_len, bl_len] at this
      exact this
    obtain ⟨b, off, ha, _, hc⟩ := (H.out.below HB2.out).pos (by omega)
    rw [ha] at had
    simp at had
    subst had
    have h1 := hc j hj
    have h2 : (vals (bl f len))[j]? = some (.int .u8 ((f j : Nat) : Int)) := by simp [vals, bl, hj]
    rw [h2] at hu
    simp at hu
    subst hu
    by_cases h0 : j = 0
    · subst h0; simpa [Addr.add] using h1
    · simpa [Addr.add, h0] using h1
  intro w3 ho3 hg3
  have hG : w.heap.size ≤ G := (OwnR.at (L := []) HO2.out).choose_spec.1
  have hb3 : Below w.heap.size w w3 := HB2.out.grown hg3 HB2.out.size (fun k hk => by simp at hk; omega)
  have HO3 := Lib.hid ho3
  have HB3 := Lib.hid hb3
  clear ho3 hb3 hg3 HO2 HB2
  generalize hcc : crcF f len = c at hcr ⊢
  have HCC := Lib.hid hcc
  clear hcc
  go_wp2_with (at_builtin; refine wpList_append_fits _ rfl (.tmp 14) (.tmp 20) 22 rfl w.heap.size 5 ti 1 Try.underlying22 hi hz1 G len (len + 2) (vals (bl f len)) rfl (HO3.out.alloc _) ⟨w3.heap.size, 0, none⟩ 2 2 (vals [c % 256, c / 256]) rfl rfl ?d3 (vals_one _) (by omega) ?_)
  case d3 =>
    intro j u hu
    have hh := heap_alloc_new w3 (.cells #[.int .u8 ((c : Int) % 256), .int .u8 ((c : Int) / 256)] 5 (0, 0))
    have hj : j = 0 ∨ j = 1 := by
      have := (List.getElem?_eq_some_iff.1 hu).1
      simp [vals] at this
      omega
    have hcell : ∀ i v, (#[Value.int .u8 ((c : Int) % 256), Value.int .u8 ((c : Int) / 256)] : Array Value)[i]? = some v → (w3.alloc (.cells #[.int .u8 ((c : Int) % 256), .int .u8 ((c : Int) / 256)] 5 (0, 0))).cell? ⟨w3.heap.size, i, none⟩ = some v :=
      fun i v hv => by simp only [World.cell?, hh]; exact hv
    rcases hj with rfl | rfl
    · simp only [vals, List.map_cons, List.map_nil, List.getElem?_cons_zero, Option.some.injEq] at hu
      subst hu
      exact hcell 0 _ (by simp)
    · simp only [vals, List.map_cons, List.map_nil, List.getElem?_cons_zero, List.getElem?_cons_succ, Option.some.injEq] at hu
      subst hu
      exact hcell 1 _ (by simp)
  intro w4 ho4 hg4
  have hb4 : Below w.heap.size w w4 := (HB3.out.alloc HB3.out.size _).grown hg4 (by have := HB3.out.size; simp; omega) (fun k hk => by simp at hk; omega)
  rw [← vals_app] at ho4
  have ho5 : OwnR w.heap.size w4 G (sealL f len).length (sealL f len) := by
    rw [OwnR, sealL_len]
    unfold sealL
    rw [HCC.out]
    exact ho4
  have HO5 := Lib.hid ho5
  have HB5 := Lib.hid hb4
  clear ho4 ho5 hb4 hg4 HO3 HB3 HCC
  go_wp2_with fail
  go_ret
  exact ⟨G, by rw [sealL_len]; rfl, HO5.out, HB5.out⟩
end Go.Proofs.Ytdlcfnpnfdlahaa
