/- PduWrong. -/
import Derived.Test.YtcmolkhaajcmpaaX
import Derived.Test.YtcmolkhaajcmpaaY
namespace Go.Proofs.Ytcmolkhaajcmpaa
set_option linter.unusedVariables false
set_option linter.unusedSimpArgs false
open Go.ChangeShapes Go.WideShapes Go.ChangeAt Go.RowKit

theorem OwnV.argB {B : Nat} {w : World} {v : Value} {L : List Nat} (h : OwnV B w v L) (hb : ∀ b ∈ L, b < 256) : ∃ a c, v = .slice a L.length c ∧ ArgB w a L.length c L ∧ ∀ b off, a = some ⟨b, off, none⟩ → B ≤ b := by
  rcases h.2 with ⟨hv, h0⟩ | ⟨g, cap, cur, hv, hg, hbk, r⟩
  · have hl : L = [] := List.eq_nil_of_length_eq_zero h0
    subst hl
    exact ⟨none, 0, hv, ⟨Bys.nil _ _, fun _ => ⟨rfl, rfl⟩, Nat.le_refl _, Nat.zero_le _⟩, fun b off e => by cases e⟩
  · have ho : OwnB B w g cap L.length L := ⟨h.1, .inr ⟨g, cap, cur, rfl, hg, hbk, r⟩⟩
    exact ⟨_, cap, hv, ho.arg hb, (fun b off e => by simp only [Option.some.injEq, Addr.mk.injEq, and_true] at e; omega)⟩
theorem ArgB.take {w : World} {a : Option Addr} {n cap : Nat} {L : List Nat} (h : ArgB w a n cap L) (k : Nat) (hk : k ≤ n) : ArgB w a k cap (L.take k) := by
  refine ⟨⟨by rw [List.length_take, h.row.ln]; omega, by have := h.row.le; omega, fun b hb => h.row.by' b (List.mem_of_mem_take hb), ?_⟩, fun e => ?_, by have := h.le; omega, h.mx⟩
  · rcases h.row.at' with z | ⟨b, off, e, hlt, hc⟩
    · exact .inl (by omega)
    · refine .inr ⟨b, off, e, hlt, fun i hi => ?_⟩
      rw [hc i (by omega)]
      congr 3
      simp only [List.getD]
      rw [List.getElem?_take_of_lt hi]
  · have := h.nil e
    omega
def WrongP (w : World) (e : Ending) (w' : World) : Prop := e = .returned (.bool true) ∧ Below w.heap.size w w'
set_option maxRecDepth 100000 in
set_option maxHeartbeats 8000000 in
theorem wrong_any (r : Rq) (cut : Nat) (x : Nat) (w : World) (hr : r.ok w) (hc : cut < 65536) (hx : x < 256) : Calls Try.prog 4 #[rv r, .int .u16 (cut : Int), .int .u8 (x : Int)] w (WrongP w) := by
  obtain ⟨P, hP⟩ : ∃ P, P = (WrongP w : Ending → World → Prop) := ⟨_, rfl⟩
  rw [← hP]
  have HP := Lib.hid hP
  have hvl := hr.arg.row.ln
  have hle := hr.arg.row.le
  unfold maxLen at hle
  have HR := Lib.hid hr
  clear hP hr
  obtain ⟨fc, ad, q, vs, vn, vc, V, rto⟩ := r
  simp only [rv]
  simp only at hvl hle
  have bw : Below w.heap.size w (w.alloc (.cells #[.int .i64 fc, .int .i64 ad, .int .i64 q, .slice vs vn vc, .int .i64 rto] 24 (0, 0))) := (Below.refl _ _).alloc (Nat.le_refl _) _
  have bk := heap_alloc_new w (.cells #[.int .i64 fc, .int .i64 ad, .int .i64 q, .slice vs vn vc, .int .i64 rto] 24 (0, 0))
  have BW := Lib.hid bw
  have BK := Lib.hid bk
  clear bw bk
  go_enter Try.func4, Try.ntmps4
  go_wp2_with fail
  refine (head_any _).mono ?_
  rintro e w1 ⟨rfl, z1⟩
  obtain ⟨c0, c1, c2, c3, c4⟩ := cells5 (low_of z1 BK.out)
  have Z1 := Lib.hid (BW.out.trans (z1.mono BW.out.size))
  have PA := Lib.hid (put_any ⟨fc, ad, q, vs, vn, vc, V, rto⟩ w1 (HR.out.below Z1.out))
  simp only [rv] at PA
  have K1 := Lib.hid (low_of z1 BK.out)
  clear z1
  go_wp2_with fail
  refine PA.out.mono ?_
  rintro e w2 ⟨v, rfl, ho, z2⟩
  have K2 := Lib.hid (low_of z2 K1.out)
  obtain ⟨d0, d1, d2, d3, d4⟩ := cells5 K2.out
  have Z2 := Lib.hid (Z1.out.trans (z2.mono Z1.out.size))
  clear z2 c0 c1 c2 c3 c4
  cases hrr : rightR ⟨fc, ad, q, vs, vn, vc, V, rto⟩ with
  | false =>
    rw [hrr] at ho
    obtain ⟨pa, pc, rfl, _, _⟩ := OwnV.argB ho (by simp)
    have tt : ((0 : Int) == 0) = true := rfl
    simp only [List.length_nil]
    clear ho hrr
    by_cases c1 : 3000 < vn
    · have e1 : decide ((3000 : Int) < (vn : Int)) = true := by simp; omega
      go_wp2_with fail
      rw [HP.out]
      exact ⟨rfl, Z2.out⟩
    · have e1 : decide ((3000 : Int) < (vn : Int)) = false := by simp; omega
      go_wp2_with fail
      rw [HP.out]
      exact ⟨rfl, Z2.out⟩
  | true =>
    have hrt := rt_of hrr
    rw [hrr, if_pos rfl] at ho
    simp only at ho hrt
    generalize hL : putR (fo fc) ⟨fc, ad, q, vs, vn, vc, V, rto⟩ = L at ho hrt
    have hby : ∀ b ∈ L, b < 256 := by rw [← hL]; exact put_by hrt.k HR.out hrt.hh (fc_of hrt.k).1 (fc_of hrt.k).2.1
    have hlen := hrt.len
    have hft := (fit_of hrt.hh).1
    have hmo := (formOf_small hrt.k).mo
    have hv2 := hft.vmo
    simp only at hv2
    have hne := hrt.head.1
    have RT := Lib.hid hrt
    obtain ⟨pa, pc, rfl, hA, hge⟩ := OwnV.argB ho hby
    obtain ⟨n, hn⟩ : ∃ n, n = L.length := ⟨_, rfl⟩
    rw [← hn] at hA ⊢
    have hn0 : 0 < n := by rw [hn]; exact List.length_pos_iff.2 hne
    have hn3 : n ≤ 253 := by omega
    have HA := Lib.hid hA
    have HGE := Lib.hid hge
    have HN := Lib.hid hn
    have HBY := Lib.hid hby
    have hpc := hA.le
    have hpm := hA.mx
    unfold maxLen at hpm
    have e1 : decide ((3000 : Int) < (vn : Int)) = false := by simp; omega
    have e2 : ((n : Int) == 0) = false := by simp; omega
    clear hL ho hrt hlen hft hmo hv2 hne hA hge hn hby hrr
    obtain ⟨k, hk⟩ : ∃ k, k = cut % n := ⟨_, rfl⟩
    have hkn : k < n := by rw [hk]; exact Nat.mod_lt _ hn0
    have e3 : (cut : Int).tmod (n : Int) = (k : Int) := by rw [hk]; simp [Int.tmod_eq_emod_of_nonneg]
    have e3' : (cut : Int) % (n : Int) = (k : Int) := by rw [hk]; simp
    have hk' : ((cut % n : Nat) : Int) = (k : Int) := by rw [hk]
    have G1 := Lib.hid (get_any pa k pc (L.take k) w2 (HA.out.take k (by omega)) (by omega))
    have e4 : (0 : Int) ≤ (k : Int) := by omega
    have e5 : (k : Int) ≤ (pc : Int) := by omega
    clear hk
    go_wp2_with fail
    refine G1.out.mono ?_
    rintro e w3 ⟨vs3, vn3, vc3, rfl, _, z3⟩
    obtain ⟨c3, hc3⟩ : ∃ c, c = getC (L.take k) := ⟨_, rfl⟩
    have hck : (k = 0 → c3 = 1) ∧ (0 < k → c3 = 3) := by
      constructor
      · intro h0; rw [hc3, h0]; rfl
      · intro h0; rw [hc3]; exact RT.out.cut k h0 (by rw [← HN.out]; exact hkn)
    rw [← hc3]
    have HCK := Lib.hid hck
    generalize getQ (L.take k) = g3 at *
    obtain ⟨fc3, ad3, q3, _, _, _, V3, to3⟩ := g3
    simp only [wsl, rv]
    have Z3 := Lib.hid (Z2.out.trans (z3.mono Z2.out.size))
    have A3 := Lib.hid (HA.out.below z3)
    clear z3 d0 d1 d2 d3 d4 G1 hck hc3
    obtain ⟨W3, hW3⟩ : ∃ W, W = w3.alloc (.cells #[.int .i64 fc3, .int .i64 ad3, .int .i64 q3, .slice vs3 vn3 vc3, .int .i64 to3] 24 (0, 0)) := ⟨_, rfl⟩
    have y3 : Below w.heap.size w W3 := by rw [hW3]; exact Z3.out.alloc Z3.out.size _
    have ya : ArgB W3 pa n pc L := by rw [hW3]; exact A3.out.below ((Below.refl _ _).alloc (Nat.le_refl _) _)
    have ys : W3.heap.size = w3.heap.size + 1 := by rw [hW3]; simp
    have Y3 := Lib.hid y3
    have YA := Lib.hid ya
    have YS := Lib.hid ys
    have HW := Lib.hid hW3
    have hs3 := Z3.out.size
    clear hW3 y3 ya ys
    go_wp2_with (at_builtin; refine wpList_append_bys rfl (.tmp 40) (.tmp 41) rfl w3.heap.size _ ?hB _ 0 [] rfl ?own pa n pc L rfl ?hby ?nil ?le ?_)
    case hB => omega
    case own =>
      have := own_new (w := W3) (B := w3.heap.size) (by rw [YS.out]; omega)
      rw [YS.out, HW.out] at this
      exact this
    case hby =>
      rw [← HW.out]
      exact (YA.out.below ((Below.refl _ _).alloc (Nat.le_refl _) _)).row
    case nil => intro e; exact (YA.out.nil e).2
    case le => omega
    rw [← HW.out, ← YS.out]
    intro v4 w4 ho4 hg4 _ hob4
    have ho4 : OwnV w3.heap.size w4 v4 L := by unfold OwnV; rw [← HN.out]; exact (by simpa using ho4)
    have y4 : Below w3.heap.size W3 w4 := ((Below.refl w3.heap.size W3).alloc (by rw [YS.out]; omega) _).grown hg4 (by simp [YS.out]; omega) (fun q hq => by simp only [Value.ownBlock, Option.some.injEq] at hq; rw [YS.out] at hq; omega)
    have Y4 := Lib.hid y4
    have O4 := Lib.hid ho4
    obtain ⟨pa4, pc4, rfl⟩ := own_form ho4
    rw [← HN.out]
    clear ho4 hg4 hob4 y4
    go_wp2_with (at_builtin; refine wpList_append_bys rfl (.tmp 42) (.tmp 44) rfl w3.heap.size _ ?hB _ n L rfl ?own (some ⟨w4.heap.size, 0, none⟩) 1 1 [x] rfl ?hby ?nil ?le ?_)
    case hB => have := Y4.out.size; rw [YS.out] at this; simp; omega
    case own => have := own_keep (w' := w4.alloc (.cells #[.int .u8 (x : Int)] 5 (0, 0))) O4.out ((Below.refl _ _).alloc (Nat.le_refl _) _); rw [← HN.out] at this; exact this
    case hby =>
      refine bys_block [x] (by simp [maxLen]) ?_ ?_ (t := 5) (m := (0, 0))
      · intro b hb
        simp at hb
        omega
      · rw [heap_alloc_new]; simp [bv]
    case nil => intro e; cases e
    case le => omega
    intro v5 w5 ho5 hg5 _ hob5
    have ho5 : OwnV w3.heap.size w5 v5 (L ++ [x]) := by unfold OwnV; rw [List.length_append, ← HN.out]; exact ho5
    have h34 : w3.heap.size ≤ w4.heap.size := by have := Y4.out.size; rw [YS.out] at this; omega
    have y5 : Below w3.heap.size W3 w5 := (Y4.out.alloc h34 _).grown hg5 (by simp; omega) (fun q hq => (O4.out.blk q (by rw [← HN.out]; exact hq)).1)
    have hb1 : ∀ b ∈ L ++ [x], b < 256 := by
      intro b hb
      rw [List.mem_append] at hb
      rcases hb with hb | hb
      · exact HBY.out b hb
      · simp at hb; omega
    obtain ⟨pa5, pc5, rfl, hA5, hge5⟩ := OwnV.argB ho5 hb1
    have hl5 : (L ++ [x]).length = n + 1 := by rw [List.length_append, ← HN.out]; rfl
    rw [hl5] at hA5 ⊢
    have G5 := Lib.hid (get_any pa5 (n + 1) pc5 (L ++ [x]) w5 hA5 (by omega))
    have Y5 := Lib.hid (Y3.out.trans (y5.mono hs3))
    have hm5 := RT.out.more x
    have HM5 := Lib.hid hm5
    clear hm5 hl5 hge5 hb1 y5 h34 ho5 hg5 hob5 hA5
    go_wp2_with fail
    refine G5.out.mono ?_
    rintro e w6 ⟨vs6, vn6, vc6, rfl, _, z6⟩
    rw [HM5.out]
    generalize getQ (L ++ [x]) = g6 at *
    obtain ⟨fc6, ad6, q6, _, _, _, V6, to6⟩ := g6
    simp only [wsl, rv]
    have Z6 := Lib.hid (Y5.out.trans (z6.mono Y5.out.size))
    have Z7 := Lib.hid (Z6.out.alloc Z6.out.size (.cells #[.int .i64 fc6, .int .i64 ad6, .int .i64 q6, .slice vs6 vn6 vc6, .int .i64 to6] 24 (0, 0)))
    clear z6 G5
    rcases Nat.eq_zero_or_pos k with h0 | h0
    · have c1 := HCK.out.1 h0
      subst h0
      subst c1
      go_wp2_with fail
      rw [HP.out]
      exact ⟨rfl, Z7.out⟩
    · have c1 := HCK.out.2 h0
      subst c1
      have t1 : ((k : Int) == 0) = false := by simp; omega
      have t2 : decide ((0 : Int) < (k : Int)) = true := by simp; omega
      go_wp2_with fail
      rw [HP.out]
      exact ⟨rfl, Z7.out⟩
end Go.Proofs.Ytcmolkhaajcmpaa
