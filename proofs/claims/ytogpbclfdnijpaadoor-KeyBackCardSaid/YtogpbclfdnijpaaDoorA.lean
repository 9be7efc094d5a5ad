/- The closures of a sum. -/
import Derived.Test.YtogpbclfdnijpaaDoorBytes
import Derived.Laws.BitsAllLaws
import Derived.Deep.RegionHeld
namespace Go.Proofs.YtogpbclfdnijpaaDoor
set_option linter.unusedVariables false
set_option linter.unusedSimpArgs false
open Go.ChangeShapes Go.WideShapes Go.ChangeAt Go.RowKit

def facN : Nat := 1099511628211
def modN : Nat := 18446744073709551616
def fnv (h x : Nat) : Nat := (h ^^^ x) * facN % modN
theorem modN_pos : 0 < modN := by unfold modN; omega
theorem fnv_lt (h x : Nat) : fnv h x < modN := Nat.mod_lt _ modN_pos
theorem u8_mod (x : UInt8) : x.toNat < modN := by have := x.toNat_lt; unfold modN; omega
theorem small_mod {x : Nat} (h : x ≤ 100000) : x < modN := by unfold modN; omega
theorem fnv_eq {h x : Nat} (hh : h < modN) (hx : x < modN) : IntKind.u64.wrap (bits .xor .u64 (h : Int) (x : Int) * 1099511628211) = ((fnv h x : Nat) : Int) := by
  rw [u64_xor_nat h x hh hx]
  unfold fnv facN modN
  simp only [IntKind.wrap, IntKind.bits, IntKind.signed]
  generalize h ^^^ x = y
  simp
/-- A string's bytes. -/
def sl (s : ByteArray) : List Nat := s.data.toList.map UInt8.toNat
theorem sl_len (s : ByteArray) : (sl s).length = s.size := by simp [sl]
theorem sl_by (s : ByteArray) : ∀ b ∈ sl s, b < 256 := by
  intro b hb
  simp only [sl, List.mem_map] at hb
  obtain ⟨u, _, rfl⟩ := hb
  exact u.toNat_lt
theorem sl_get (s : ByteArray) (k : Nat) (h : k < s.size) : (sl s).getD k 0 = s[k].toNat := by
  have h' : k < s.data.toList.length := by simpa using h
  simp [sl, List.getD, List.getElem?_map, List.getElem?_eq_getElem h']
  rfl
theorem sl_take (s : ByteArray) (k : Nat) (h : k < s.size) : (sl s).take (k + 1) = (sl s).take k ++ [s[k].toNat] := by
  rw [List.take_add_one, ← sl_get s k h, List.getElem?_eq_getElem (by rw [sl_len]; exact h)]
  simp [List.getD, List.getElem?_eq_getElem (show k < (sl s).length by rw [sl_len]; exact h)]
def keyRound (K : List Nat) (h t : Nat) : Nat := fnv (K.foldl fnv h) t
def startN : Nat := 14695981039346656037
theorem fold_lt (K : List Nat) (h : Nat) (hh : h < modN) : K.foldl fnv h < modN := by
  induction K generalizing h with
  | nil => exact hh
  | cons a K ih => exact ih _ (fnv_lt _ _)
/-- Only these blocks have changed. -/
structure Fw (l : List Nat) (w w' : World) : Prop where
  os : w'.os = w.os
  tape : w'.tape = w.tape
  output : w'.output = w.output
  size : w.heap.size ≤ w'.heap.size
  block : ∀ k, k < w.heap.size → k ∉ l → w'.heap[k]? = w.heap[k]?
theorem Fw.of_below {l : List Nat} {w w' : World} (h : Below w.heap.size w w') : Fw l w w' := ⟨h.os, h.tape, h.output, h.size, fun k hk _ => h.block k hk⟩
theorem Fw.refl (l : List Nat) (w : World) : Fw l w w := Fw.of_below (Below.refl _ _)
theorem Fw.below {l : List Nat} {B : Nat} {w w' : World} (h : Fw l w w') (hB : ∀ x ∈ l, B ≤ x) (hs : B ≤ w.heap.size) : Below B w w' :=
  ⟨h.os, h.tape, h.output, h.size, fun k hk => h.block k (by omega) (fun q => by have := hB k q; omega)⟩
theorem Fw.trans {l : List Nat} {a b c : World} (h : Fw l a b) (h' : Fw l b c) : Fw l a c :=
  ⟨h'.os.trans h.os, h'.tape.trans h.tape, h'.output.trans h.output, Nat.le_trans h.size h'.size, fun k hk h1 => (h'.block k (Nat.lt_of_lt_of_le hk h.size) h1).trans (h.block k hk h1)⟩
theorem Fw.set (w : World) (g k : Nat) (v : Value) : Fw [g] w (w.setCell ⟨g, k, none⟩ v) :=
  ⟨rfl, rfl, rfl, by simp, fun q _ hq => Below.heap_setCell _ _ _ _ (by simpa using hq)⟩
theorem Fw.drew {l : List Nat} {w w' : World} (h : Fw l w w') : Fw l w w'.drew := h.trans (Fw.of_below (Below.refl _ _).drew)
theorem blk_ltB {w : World} {r : Nat} {o : Obj} (h : w.heap[r]? = some o) : r < w.heap.size := by
  rcases Nat.lt_or_ge r w.heap.size with h' | h'
  · exact h'
  · simp [Array.getElem?_eq_none h'] at h
theorem one_set {w : World} {b : Nat} {v u : Value} {t : TypeId} (h : w.heap[b]? = some (.cells #[v] t (0, 0))) : (w.setCell ⟨b, 0, none⟩ u).heap[b]? = some (.cells #[u] t (0, 0)) := by
  simp [World.setCell, Array.getElem?_modify, h]
theorem put_any (b : Nat) (h x : Nat) (w : World) (hh : h < modN) (hx : x < modN) (hb : w.heap[b]? = some (.cells #[.int .u64 (h : Int)] 37 (0, 0))) :
    Calls Tryd.prog 19 #[.int .u64 (x : Int), .pointer (some ⟨b, 0, none⟩)] w (fun e w' => e = .returned (.tuple #[]) ∧ w' = w.setCell ⟨b, 0, none⟩ (.int .u64 ((fnv h x : Nat) : Int))) := by
  have c0 : w.cell? ⟨b, 0, none⟩ = some (.int .u64 (h : Int)) := by simp [World.cell?, hb]
  have f0 : w.frozen? ⟨b, 0, none⟩ = false := by simp [World.frozen?, hb]
  have HE := Lib.hid (fnv_eq hh hx)
  clear hb hh hx
  go_enter Tryd.func19, Tryd.ntmps19
  go_wp2_with fail
  rw [HE.out]
  first | go_end0 | refine bodyPost_ret (results_none rfl _ _ _) rfl ?_
  exact ⟨rfl, rfl⟩
theorem wrap_u64 {x : Nat} (h : x < modN) : IntKind.u64.wrap (x : Int) = (x : Int) := by
  unfold modN at h
  simp only [IntKind.wrap, IntKind.bits, IntKind.signed]
  simp
  omega
/-- A key that is being summed up: the key, the sum, and what puts. -/
structure KeyS (W : World) (s : ByteArray) (kb pb sb h : Nat) : Prop where
  k : W.heap[kb]? = some (.cells #[.string s] 9 (0, 0))
  p : W.heap[pb]? = some (.cells #[.func (.func 19) #[] #[.pointer (some ⟨sb, 0, none⟩)]] 41 (0, 0))
  v : W.heap[sb]? = some (.cells #[.int .u64 (h : Int)] 37 (0, 0))
  ks : kb ≠ sb
  ps : pb ≠ sb
  lt : h < modN
theorem KeyS.put {W : World} {s : ByteArray} {kb pb sb h : Nat} (H : KeyS W s kb pb sb h) {x : Nat} (hx : x < modN) : KeyS (W.setCell ⟨sb, 0, none⟩ (.int .u64 (x : Int))) s kb pb sb x :=
  ⟨(Below.heap_setCell _ _ _ _ H.ks).trans H.k, (Below.heap_setCell _ _ _ _ H.ps).trans H.p, one_set H.v, H.ks, H.ps, hx⟩
theorem KeyS.below {W W' : World} {s : ByteArray} {kb pb sb h : Nat} (H : KeyS W s kb pb sb h) (hb : Below W.heap.size W W') : KeyS W' s kb pb sb h :=
  ⟨(hb.block _ (blk_ltB H.k)).trans H.k, (hb.block _ (blk_ltB H.p)).trans H.p, (hb.block _ (blk_ltB H.v)).trans H.v, H.ks, H.ps, H.lt⟩
theorem KeyS.cells {W : World} {s : ByteArray} {kb pb sb h : Nat} (H : KeyS W s kb pb sb h) : W.cell? ⟨kb, 0, none⟩ = some (.string s) ∧ W.cell? ⟨pb, 0, none⟩ = some (.func (.func 19) #[] #[.pointer (some ⟨sb, 0, none⟩)]) ∧ W.cell? ⟨sb, 0, none⟩ = some (.int .u64 (h : Int)) := by
  simp [World.cell?, H.k, H.p, H.v]
def RoundP (w : World) (s : ByteArray) (kb pb sb h : Nat) (e : Ending) (w' : World) : Prop := e = .returned (.int .u64 (h : Int)) ∧ KeyS w' s kb pb sb h ∧ Fw [sb] w w'
set_option maxRecDepth 100000 in
set_option maxHeartbeats 4000000 in
theorem round_any (s : ByteArray) (t kb pb sb h : Nat) (w : World) (hs : s.size ≤ 100000) (ht : t ≤ 100000) (H : KeyS w s kb pb sb h) :
    Calls Tryd.prog 20 #[.int .i64 (t : Int), .pointer (some ⟨kb, 0, none⟩), .pointer (some ⟨pb, 0, none⟩), .pointer (some ⟨sb, 0, none⟩)] w (RoundP w s kb pb sb (keyRound (sl s) h t)) := by
  obtain ⟨P, hP⟩ : ∃ P, P = (RoundP w s kb pb sb (keyRound (sl s) h t) : Ending → World → Prop) := ⟨_, rfl⟩
  rw [← hP]
  obtain ⟨r, hr⟩ : ∃ r, r = keyRound (sl s) h t := ⟨_, rfl⟩
  rw [← hr] at hP
  have hr2 : fnv ((sl s).foldl fnv h) t = r := by rw [hr, keyRound]
  have HR := Lib.hid hr2
  have FIN : Hid (∀ W, KeyS W s kb pb sb r → Fw [sb] w W → P (.returned (.int .u64 (r : Int))) W) := Lib.hid (fun W h1 h2 => by rw [hP]; exact ⟨rfl, h1, h2⟩)
  clear hr hr2
  have HS := Lib.hid H
  obtain ⟨c0, c1, c2⟩ := H.cells
  clear hP H
  go_enter Tryd.func20, Tryd.ntmps20
  go_wp2_with fail
  clear c0 c1 c2
  go_loopw [9] (fun iv wr => ∃ k : Nat, k ≤ s.size ∧ iv = .int .i64 k ∧ KeyS wr s kb pb sb (((sl s).take k).foldl fnv h) ∧ Fw [sb] w wr) (fun iv _ => s.size - (intOf iv).toNat)
  case atStart => exact ⟨0, Nat.zero_le _, rfl, HS.out, Fw.refl _ _⟩
  case round =>
    obtain ⟨wo, rfl⟩ : ∃ wo : World, wo = wr := ⟨_, rfl⟩
    obtain ⟨k, hk, rfl, hK, hF⟩ := hrel
    by_cases hkn : k < s.size
    · have htk := sl_take s k hkn
      obtain ⟨c0, c1, c2⟩ := hK.cells
      have HK := Lib.hid hK
      have HF := Lib.hid hF
      have hx : s[k].toNat < modN := u8_mod _
      obtain ⟨x, hxe⟩ : ∃ x, x = s[k].toNat := ⟨_, rfl⟩
      have HX := Lib.hid hxe
      rw [← hxe] at hx
      have hfo : ((sl s).take (k + 1)).foldl fnv h = fnv (((sl s).take k).foldl fnv h) x := by rw [htk, List.foldl_append, hxe, List.foldl_cons, List.foldl_nil]
      have HFO := Lib.hid hfo
      have HXL := Lib.hid hx
      clear hK hF htk hfo hx hxe
      have w0 : IntKind.u64.wrap (x : Int) = (x : Int) := wrap_u64 HXL.out
      have wz : ((s[k].toNat : Nat) : Int) = (x : Int) := by rw [HX.out]
      have kI : (k : Int) < (s.size : Int) := by omega
      have g0 : Below wo.heap.size wo wo.drew := (Below.refl _ _).drew
      have PUH : Hid (Calls Tryd.prog 19 #[.int .u64 (x : Int), .pointer (some ⟨sb, 0, none⟩)] wo.drew (fun e w5 => e = .returned (.tuple #[]) ∧ KeyS w5 s kb pb sb (fnv (((sl s).take k).foldl fnv h) x) ∧ Fw [sb] w w5)) := Lib.hid ((put_any sb _ x wo.drew HK.out.lt HXL.out (HK.out.below g0).v).mono (by
        rintro e w5 ⟨rfl, rfl⟩
        exact ⟨rfl, (HK.out.below g0).put (fnv_lt _ _), HF.out.drew.trans (Fw.set _ _ _ _)⟩))
      clear g0
      go_wp2_with fail
      go_region_held (fun w' => w'.cell? ⟨kb, 0, none⟩ = some (.string s) ∧ w'.cell? ⟨pb, 0, none⟩ = some (.func (.func 19) #[] #[.pointer (some ⟨sb, 0, none⟩)])) (first | exact ⟨c0, c1⟩ | exact ⟨n0, n1⟩ | go_keep) (first
        | (go_at_call 19; refine PUH.out.mono ?_; rintro e w5 ⟨rfl, N5, F5⟩; obtain ⟨n0, n1, n2⟩ := N5.cells))
      all_goals
        have HN5 := Lib.hid N5
        have HF5 := Lib.hid F5
        clear N5 F5 n0 n1 n2 c0 c1 c2
        go_wp2_with fail
        go_roundw
        case rel => exact ⟨k + 1, by omega, by go_num, by rw [HFO.out]; exact HN5.out, HF5.out⟩
        case measure => simp [intOf]; omega
    · have hk' : k = s.size := by omega
      subst hk'
      rw [List.take_of_length_le (by rw [sl_len]; exact Nat.le_refl _)] at hK
      obtain ⟨c0, c1, c2⟩ := hK.cells
      have w0 : IntKind.u64.wrap (t : Int) = (t : Int) := wrap_u64 (small_mod ht)
      have PU : Hid (Calls Tryd.prog 19 #[.int .u64 (t : Int), .pointer (some ⟨sb, 0, none⟩)] wo (fun e w5 => e = .returned (.tuple #[]) ∧ KeyS w5 s kb pb sb r ∧ Fw [sb] w w5)) := Lib.hid ((put_any sb _ t wo hK.lt (small_mod ht) hK.v).mono (by
        rintro e w5 ⟨rfl, rfl⟩
        rw [HR.out]
        exact ⟨rfl, hK.put (by rw [← HR.out]; exact fnv_lt _ _), hF.trans (Fw.set _ _ _ _)⟩))
      clear hK hF
      go_wp2_with fail
      refine PU.out.mono ?_
      rintro e w5 ⟨rfl, N5, F5⟩
      obtain ⟨n0, n1, n2⟩ := N5.cells
      have HN5 := Lib.hid N5
      have HF5 := Lib.hid F5
      clear N5 F5 c0 c1 c2
      go_wp2_with fail
      exact FIN.out _ HN5.out HF5.out
end Go.Proofs.YtogpbclfdnijpaaDoor
