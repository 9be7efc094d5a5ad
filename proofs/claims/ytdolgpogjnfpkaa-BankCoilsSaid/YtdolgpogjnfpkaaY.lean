/- Alarm, Get, Same, Great, Reads. -/
import Derived.Test.YtdolgpogjnfpkaaX
namespace Go.Proofs.Ytdolgpogjnfpkaa
set_option linter.unusedVariables false
set_option linter.unusedSimpArgs false
open Go.ChangeShapes Go.WideShapes Go.ChangeAt Go.RowKit

theorem or128 (x : Nat) (hx : x < 256) : Go.bits .or .u8 (x : Int) 128 = ((x ||| 128 : Nat) : Int) := by
  have g1 : (BitVec.ofInt 8 (x : Int)).toNat = x := by
    rw [BitVec.ofInt_natCast, BitVec.toNat_ofNat]; exact Nat.mod_eq_of_lt (by omega)
  have g2 : (BitVec.ofInt 8 128).toNat = 128 := by decide
  show IntKind.u8.wrap ((BitVec.ofInt 8 (x : Int) ||| BitVec.ofInt 8 128).toNat : Int) = _
  rw [BitVec.toNat_or, g1, g2]
  have : x ||| 128 < 256 := Nat.or_lt_two_pow (n := 8) hx (by omega)
  simp [IntKind.wrap, IntKind.bits, IntKind.signed]
  omega
def alN (D : List Nat) (code : Int) : List Nat := if isEx code = true then [D.getD 0 0 ||| 128, code.toNat] else []
set_option maxRecDepth 100000 in
set_option maxHeartbeats 4000000 in
theorem alarm_any (a : Option Addr) (n c : Nat) (D : List Nat) (code : Int) (w : World) (h : Bys w a n D) : Calls Try.prog 29 #[.slice a n c, .int .i64 code] w (OutP w (alN D code)) := by
  obtain ⟨P, hP⟩ : ∃ P, P = (OutP w (alN D code) : Ending → World → Prop) := ⟨_, rfl⟩
  rw [← hP]
  have HP := Lib.hid hP
  have IE := isEx_any code w
  have hln := h.ln
  have HAL : Hid (alN D code = _) := Lib.hid rfl
  unfold alN at HAL
  cases he : isEx code with
  | false =>
    have FIN : Hid (P (.returned (.slice none 0 0)) w) := Lib.hid (by
      rw [HP.out]; unfold alN; rw [he]; exact ⟨_, rfl, ⟨rfl, .inl ⟨rfl, rfl⟩⟩, Below.refl _ _⟩)
    rw [he] at IE
    clear hP h hln HAL he
    go_enter Try.func29, Try.ntmps29
    go_wp2_with fail
    refine IE.mono ?_
    rintro e w1 ⟨rfl, rfl⟩
    go_wp2_with fail
    exact FIN.out
  | true =>
    have hc : 1 ≤ code ∧ code ≤ 4 := by unfold isEx at he; simpa using he
    obtain ⟨code, rfl⟩ : ∃ k : Nat, code = (k : Int) := ⟨code.toNat, by omega⟩
    rw [he] at IE
    have l0 := getD_lt h.by' 0
    have hor := or128 (D.getD 0 0) l0
    have FIN : Hid (∀ x : Nat, x = D.getD 0 0 → P (.returned (.slice (some ⟨w.heap.size, 0, none⟩) 2 2)) (w.alloc (.cells #[.int .u8 ((x ||| 128 : Nat) : Int), .int .u8 (code : Int)] 5 (0, 0)))) := Lib.hid (by
      intro x hx
      rw [HP.out]; unfold alN; rw [he]; simp only [if_true, Int.toNat_natCast]
      refine ⟨_, rfl, ⟨rfl, .inr ⟨w.heap.size, 2, #[.int .u8 ((x ||| 128 : Nat) : Int), .int .u8 (code : Int)], rfl, Nat.le_refl _, heap_alloc_new _ _, Nat.le_refl _, by unfold maxLen; omega, rfl, by rw [hx]; rfl⟩⟩, (Below.refl _ _).alloc (Nat.le_refl _) _⟩)
    have c2 : IntKind.u8.wrap (code : Int) = (code : Int) := by simp [IntKind.wrap, IntKind.bits, IntKind.signed]; omega
    by_cases hn : n = 0
    · subst hn
      have hD : D.getD 0 0 = 0 := by rw [List.eq_nil_of_length_eq_zero hln]; rfl
      rw [hD] at FIN
      have F0 := Lib.hid (FIN.out 0 rfl)
      clear hP h hln HAL he hor hD FIN
      go_enter Try.func29, Try.ntmps29
      go_wp2_with fail
      refine IE.mono ?_
      rintro e w1 ⟨rfl, rfl⟩
      go_wp2_with fail
      have e0 : Go.bits BinOp.or IntKind.u8 0 128 = ((0 ||| 128 : Nat) : Int) := or128 0 (by omega)
      rw [e0]
      exact F0.out
    · obtain ⟨b, off, rfl, hbl, hcc⟩ := h.pos (by omega)
      have c0 : w.cell? ⟨b, off, none⟩ = some (.int .u8 ((D.getD 0 0 : Nat) : Int)) := hcc 0 (by omega)
      have d0 : (0 : Int) < (n : Int) := by omega
      generalize D.getD 0 0 = x at c0 hor FIN l0
      have F0 := Lib.hid (FIN.out x rfl)
      clear hP h hln HAL he hcc FIN
      go_enter Try.func29, Try.ntmps29
      go_wp2_with fail
      refine IE.mono ?_
      rintro e w1 ⟨rfl, rfl⟩
      go_wp2_with fail
      exact F0.out
theorem st2_at (w : World) {g k : Nat} (h : k ≠ g) (a b : Value) : ((w.setCell ⟨g, 0, none⟩ a).setCell ⟨g, 1, none⟩ b).heap[k]? = w.heap[k]? :=
  (Below.heap_setCell _ _ _ _ h).trans (Below.heap_setCell _ _ _ _ h)
theorem ArgW.st2 {w : World} {a : Option Addr} {n c g : Nat} {t : TypeId} {L : List Nat} {x : Int} {u : Option Addr} {m d : Nat} (h : ArgW w a n c L) (hg : w.heap[g]? = some (.cells #[.int .i64 x, .slice u m d] t (0, 0))) (v1 v2 : Value) : ArgW ((w.setCell ⟨g, 0, none⟩ v1).setCell ⟨g, 1, none⟩ v2) a n c L := by
  refine ⟨⟨h.row.ln, h.row.le, h.row.by', ?_⟩, h.nil, h.le, h.mx⟩
  rcases h.row.at' with z | ⟨b, off, e, hlt, hc⟩
  · exact .inl z
  · by_cases h0 : n = 0
    · exact .inl h0
    · have hb : b ≠ g := by
        rintro rfl
        have := hc 0 (by omega)
        rw [Nat.add_zero] at this
        simp only [World.cell?, hg] at this
        match off, this with
        | 0, this => simp at this
        | 1, this => simp at this
        | k + 2, this => simp at this
      exact .inr ⟨b, off, e, by simpa [World.setCell] using hlt, fun i hi => (World.cell?_of_block (a := ⟨b, off + i, none⟩) (st2_at w hb v1 v2)).trans (hc i hi)⟩
def sameB (c d : Int) (V U : List Nat) : Bool := decide (c = d) && decide (V = U)
set_option maxRecDepth 100000 in
set_option maxHeartbeats 4000000 in
theorem sameR_any (p p2 : Rp) (w : World) (h : ArgW w p.vs p.vn p.vc p.V) (h2 : ArgW w p2.vs p2.vn p2.vc p2.V) : Calls Try.prog 19 #[rpv p, rpv p2] w (BoolB w (sameB p.code p2.code p.V p2.V)) := by
  obtain ⟨P, hP⟩ : ∃ P, P = (BoolB w (sameB p.code p2.code p.V p2.V) : Ending → World → Prop) := ⟨_, rfl⟩
  rw [← hP]
  have HP := Lib.hid hP
  have HEQ : Hid (sameB p.code p2.code p.V p2.V = (decide (p.code = p2.code) && decide (p.V = p2.V))) := Lib.hid rfl
  obtain ⟨c1, us, un, uc, U⟩ := p
  obtain ⟨c2, vs, vn, vc, V⟩ := p2
  simp only [rpv] at *
  have k1 := alloc_bq w (.cells #[.int .i64 c1, .slice us un uc] 40 (0, 0))
  have bw := k1.alloc (o := .cells #[.int .i64 c2, .slice vs vn vc] 40 (0, 0)) k1.size
  have SV := Lib.hid (samevals_any us un uc U vs vn vc V _ (h.row.below bw) (h2.row.below bw))
  have BW := Lib.hid bw
  clear hP h h2 k1 bw
  by_cases hc : c1 = c2
  · have t1 : (c1 == c2) = true := by simp [hc]
    have t2 : decide (c1 = c2) = true := by simp [hc]
    rw [t2] at HEQ
    clear t2 hc
    go_enter Try.func19, Try.ntmps19
    go_wp2_with fail
    refine SV.out.mono ?_
    rintro e w1 ⟨rfl, z1⟩
    have B1 := Lib.hid (BW.out.trans (Below.mono z1 BW.out.size))
    clear z1
    obtain ⟨q, hq⟩ : ∃ q, q = decide (U = V) := ⟨_, rfl⟩
    rw [← hq] at HEQ ⊢
    clear hq
    go_wp2_with fail
    rw [HP.out]
    exact ⟨by rw [HEQ.out]; rfl, B1.out⟩
  · have t1 : (c1 == c2) = false := by simp [hc]
    have t2 : decide (c1 = c2) = false := by simp [hc]
    rw [t2] at HEQ
    clear t2 hc
    go_enter Try.func19, Try.ntmps19
    go_wp2_with fail
    rw [HP.out]
    exact ⟨by rw [HEQ.out]; rfl, BW.out⟩
def greatB (V U : List Nat) : Bool := decide (3000 < V.length) || decide (3000 < U.length)
def rd14 (n : Int) : Bool := decide (n = 1) || decide (n = 2) || decide (n = 3) || decide (n = 4) || decide (n = 23)
def bi14 (n : Int) : Bool := decide (n = 1) || decide (n = 2)
set_option maxRecDepth 100000 in
set_option maxHeartbeats 4000000 in
theorem reads14_any (n : Int) (w : World) : Calls Try.prog 40 #[.int .i64 n] w fun e w' => e = .returned (.tuple #[.bool (rd14 n), .bool (bi14 n)]) ∧ w' = w := by
  by_cases h1 : n = 1
  · subst h1; go_enter Try.func40, Try.ntmps40; go_wp2_with fail; exact bodyPost_ret (v := .tuple #[.bool _, .bool _]) (by simp [results, Try.results40, go_sem, rd14, bi14]) rfl ⟨rfl, rfl⟩
  by_cases h2 : n = 2
  · subst h2; go_enter Try.func40, Try.ntmps40; go_wp2_with fail; exact bodyPost_ret (v := .tuple #[.bool _, .bool _]) (by simp [results, Try.results40, go_sem, rd14, bi14]) rfl ⟨rfl, rfl⟩
  by_cases h3 : n = 3
  · subst h3; go_enter Try.func40, Try.ntmps40; go_wp2_with fail; exact bodyPost_ret (v := .tuple #[.bool _, .bool _]) (by simp [results, Try.results40, go_sem, rd14, bi14]) rfl ⟨rfl, rfl⟩
  by_cases h4 : n = 4
  · subst h4; go_enter Try.func40, Try.ntmps40; go_wp2_with fail; exact bodyPost_ret (v := .tuple #[.bool _, .bool _]) (by simp [results, Try.results40, go_sem, rd14, bi14]) rfl ⟨rfl, rfl⟩
  by_cases h5 : n = 23
  · subst h5; go_enter Try.func40, Try.ntmps40; go_wp2_with fail; exact bodyPost_ret (v := .tuple #[.bool _, .bool _]) (by simp [results, Try.results40, go_sem, rd14, bi14]) rfl ⟨rfl, rfl⟩
  have e1 : rd14 n = false := by unfold rd14; simp [h1, h2, h3, h4, h5]
  have e2 : bi14 n = false := by unfold bi14; simp [h1, h2]
  rw [e1, e2]
  have b1 : (n == 1) = false := by simp [h1]
  have b2 : (n == 2) = false := by simp [h2]
  have b3 : (n == 3) = false := by simp [h3]
  have b4 : (n == 4) = false := by simp [h4]
  have b5 : (n == 23) = false := by simp [h5]
  clear e1 e2 h1 h2 h3 h4 h5
  go_enter Try.func40, Try.ntmps40
  go_wp2_with fail
  exact bodyPost_ret (v := .tuple #[.bool false, .bool false]) (by simp [results, Try.results40, go_sem]) rfl ⟨rfl, rfl⟩
theorem reads14_fo {k : Int} {f : Fo} (h : formOf k = some f) : rd14 k = f.rd ∧ bi14 k = (f.rd && f.bi) := by
  unfold formOf at h
  repeat' split at h
  all_goals first | (cases h; done) | (injection h with h; subst h; simp_all [rd14, bi14]; done) | (injection h with h; subst h; simp_all [rd14, bi14]; omega)
end Go.Proofs.Ytdolgpogjnfpkaa
