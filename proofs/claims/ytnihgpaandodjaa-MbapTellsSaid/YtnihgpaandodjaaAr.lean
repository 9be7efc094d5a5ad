/- Frames that came in; great. -/
import Derived.Test.YtnihgpaandodjaaStructs
import Derived.Test.YtnihgpaandodjaaUn
namespace Go.Proofs.Ytnihgpaandodjaa
set_option linter.unusedVariables false
open Go.ChangeShapes Go.WideShapes Go.ChangeAt Go.RowKit
attribute [local go_sem ↓] Go.wp_at_zero Go.wp_at_succ

section
variable {H : Type} {enc : TypeId × Value → H} {w : World}
theorem field_bytes {n : Nat} {l : List Value} {o : Nat} (h : ∃ y, DataW.trod enc Try.prog w 0 (fun _ => true) true n 23 ((l.drop o).take (Try.prog.cellsOf 23)) = some y) :
    ∃ (a : Option Addr) (len cap : Nat) (L : List Nat), l[o]? = some (.slice a len cap) ∧ ArgB w a len cap L := by
  obtain ⟨y, hy⟩ := h
  have hc : Try.prog.cellsOf 23 = 1 := by kernel_rfl
  rw [hc] at hy
  have key : ∃ a len cap, (l.drop o).take 1 = [.slice a len cap] := by
    rcases Go.Deep.open_slice Try.underlying23 hy with ⟨hcs, _⟩ | ⟨y, l', c, m, n, D, Pl, hcs, _⟩
    · exact ⟨none, 0, 0, hcs⟩
    · exact ⟨_, _, _, hcs⟩
  obtain ⟨a, len, cap, hk⟩ := key
  rw [hk] at hy
  obtain ⟨f, hr⟩ := arg_bytes hy
  have h0 : ((l.drop o).take 1)[0]? = some (.slice a len cap) := by rw [hk]; rfl
  exact ⟨a, len, cap, f, by simpa using h0, hr⟩
theorem arg_ads {fuel : Nat} {a : Option Addr} {len cap : Nat} {x : DataW H × List MemPlace} (h : DataW.trod enc Try.prog w 0 (fun _ => true) true fuel 28 [.slice a len cap] = some x) :
    ∃ A : List Ad, Ads w a len A := by
  obtain ⟨V, hV, hf⟩ := row_structs (sz := 3) Try.underlying28 Try.underlying25 (by kernel_rfl) (by omega) h
  obtain ⟨f, hff⟩ := Go.Deep.choose_lt (α := Ad) (p := fun i x => V i = adv x ∧ x.ok w) (fun i hi => by
    obtain ⟨hl, n, hfi⟩ := hf i hi
    obtain ⟨b0, h0, w0⟩ := field_int (P := Try.prog) Try.underlying22 (by kernel_rfl) (hfi 0 _ rfl)
    obtain ⟨b1, h1, w1⟩ := field_int (P := Try.prog) Try.underlying5 (by kernel_rfl) (hfi 1 _ rfl)
    obtain ⟨a2, l2, c2, f2, h2, r2⟩ := field_bytes (hfi 2 _ rfl)
    have y0 := bd_u16 w0
    have y1 := bd_u8 w1
    refine ⟨⟨b0.toNat, b1.toNat, a2, l2, c2, f2⟩, ?_, ⟨by show b0.toNat < 65536; omega, by show b1.toNat < 256; omega, r2.row, r2.le, r2.mx⟩⟩
    have e0 : ((b0.toNat : Nat) : Int) = b0 := by omega
    have e1 : ((b1.toNat : Nat) : Int) = b1 := by omega
    rw [list3 hl h0 h1 h2]
    simp only [adv, e0, e1])
  have hg : ∀ i, i < len → ((List.range len).map f).getD i default = f i := fun i hi => by simp [List.getD, List.getElem?_map, List.getElem?_range hi]
  refine ⟨(List.range len).map f, by simp, hV.le, fun i hi => by rw [hg i hi]; exact (hff i hi).2, ?_⟩
  rcases hV.at' with z | ⟨b, off, ha, hb, hc⟩
  · exact .inl z
  · exact .inr ⟨b, off, ha, hb, fun i hi j hj => by rw [hg i hi, ← (hff i hi).1, Nat.add_assoc]; exact hc i hi j hj⟩
end
def psum (A : List Ad) : Nat := (A.map fun x => min x.n 20000).sum
theorem psum_app (A B : List Ad) : psum (A ++ B) = psum A + psum B := by simp [psum]
def GreatP (A : List Ad) (w : World) (e : Ending) (w' : World) : Prop := ∃ b : Bool, e = .returned (.bool b) ∧ (b = false → A.length + psum A < 20000) ∧ Below w.heap.size w w'
theorem ad_take (A : List Ad) (k : Nat) (h : k < A.length) : psum (A.take (k + 1)) = psum (A.take k) + min (A.getD k default).n 20000 := by
  rw [take_snoc A k h, psum_app]; simp [psum]
set_option maxRecDepth 100000 in
set_option maxHeartbeats 2000000 in
theorem great_any (a : Option Addr) (len cap : Nat) (A : List Ad) (w : World) (h : Ads w a len A) : Calls Try.prog 10 #[.slice a len cap] w (GreatP A w) := by
  have hl := h.le
  unfold maxLen at hl
  have H := Lib.hid h
  have hln := h.ln
  clear h
  go_enter Try.func10, Try.ntmps10
  go_wp2_with fail
  go_loop [3, 4] (fun n i => ∃ (k N : Nat), k ≤ len ∧ i = .int .i64 k ∧ n = .int .i64 N ∧ N = len + psum (A.take k) ∧ (k = 0 ∨ N < 40000)) (fun _ i => len - (intOf i).toNat)
  case atStart => exact ⟨0, len, Nat.zero_le _, rfl, rfl, by simp [psum], .inl rfl⟩
  case round =>
    obtain ⟨k, N, hk, rfl, rfl, hN, hN1⟩ := hrel
    by_cases hlt : k < len
    · obtain ⟨b, off, rfl, hlt', hcs⟩ := H.out.pos (by omega)
      obtain ⟨_, _, c2⟩ := hcs k hlt
      have hlk := (H.out.ok k hlt).2.2.1.le
      unfold maxLen at hlk
      have hst := ad_take A k (by omega)
      have ST := Lib.hid hst
      have HN := Lib.hid hN
      clear hcs hst hN
      generalize (A.getD k default).n = gl at *
      generalize (A.getD k default).s = ga at *
      generalize (A.getD k default).c = gc at *
      have i1 : (0 : Int) ≤ (k : Int) := by omega
      have i2 : (k : Int) < (len : Int) := by omega
      by_cases hb : N < 20000
      · have t1 : decide ((N : Int) < 20000) = true := by simp; omega
        have hm : ((N + min gl 20000 : Nat) : Int) = (N : Int) + min (gl : Int) 20000 := by omega
        have HM := Lib.hid hm
        clear hm
        go_wp2_with fail
        all_goals
          go_round
          case rel => exact ⟨k + 1, N + min gl 20000, by omega, by go_num, by rw [HM.out]; congr 1; split <;> omega, by rw [ST.out, HN.out]; omega, .inr (by omega)⟩
          case measure => simp [intOf]; omega
      · have t1 : decide ((N : Int) < 20000) = false := by simp; omega
        have t2 : decide ((20000 : Int) ≤ (N : Int)) = true := by simp; omega
        go_wp2_with fail
        go_ret
        exact ⟨_, rfl, fun h => by simp at h, Below.refl _ _⟩
    · have hk' : k = len := by omega
      have hfull : A.take k = A := List.take_of_length_le (by omega)
      rw [hfull] at hN
      have HN := Lib.hid hN
      clear hfull hN
      subst hk'
      by_cases hb : 20000 ≤ N
      · have t2 : decide ((20000 : Int) ≤ (N : Int)) = true := by simp; omega
        go_wp2_with fail
        go_ret
        exact ⟨_, rfl, fun h => by simp at h, Below.refl _ _⟩
      · have t2 : decide ((20000 : Int) ≤ (N : Int)) = false := by simp; omega
        go_wp2_with fail
        go_ret
        exact ⟨_, rfl, (fun h => by rw [hln, ← HN.out]; omega), Below.refl _ _⟩
end Go.Proofs.Ytnihgpaandodjaa
