/- The walk of RtuSpoilt: a bit turned. -/
import Derived.Test.YtdlcfnpnfdlahaaSpA
import Derived.RegionTactic
import Derived.BigRegion
namespace Go.Proofs.Ytdlcfnpnfdlahaa
set_option linter.unusedVariables false
open Go.ChangeShapes Go.WideShapes Go.ChangeAt Go.RowKit

set_option maxRecDepth 100000 in
set_option maxHeartbeats 4000000 in
theorem bit5 (u : Nat) (hu : u < 256) (a : Option Addr) (len cap : Nat) (P : List Nat) (at' q : Nat) (w : World) (h : ArgB w a len cap P) (h0 : 0 < len) (h1 : len ≤ 253) (ht : at' ≤ 65535) (hm : at' % (8 * (len + 3)) = 8 * q + 5) :
    Calls Try.prog 7 #[.int .u8 (u : Int), .slice a len cap, .int .u16 (at' : Int), .bool false] w fun e w' => e = .returned (.bool true) ∧ Below w.heap.size w w' := by
  have hqk : q ≤ len + 2 := by have := Nat.mod_lt at' (show 0 < 8 * (len + 3) by omega); omega
  have hn := h.row.ln
  obtain ⟨K, hKd⟩ : ∃ K : Nat, K = 8 * q + 5 := ⟨_, rfl⟩
  have hK : ((at' : Int) % (8 * ((len : Int) + 3))) = (K : Int) := by
    have e : (8 * ((len : Int) + 3)) = ((8 * (len + 3) : Nat) : Int) := by omega
    rw [e, ← Int.natCast_emod, hm, hKd]
  have hfl := flip_get u P hu h.row.by' (by omega) (by omega) q 32 (by omega) (by omega) (by omega)
  have hFb := sealN_by (by_cons hu h.row.by')
  have hFl : (sealN (u :: P)).length = len + 3 := by rw [sealN_len]; simp [hn]
  have hif0 : 0 < P.length ∧ P.length ≤ 253 := by omega
  have d1 : decide (253 < (len : Int)) = false := by simp; omega
  have d2 : ((len : Int) + 3 == 0) = false := by simp; omega
  have HK := Lib.hid hK
  have HKD := Lib.hid hKd
  have H := Lib.hid h
  have FLP := Lib.hid hfl
  have FB := Lib.hid hFb
  have FL := Lib.hid hFl
  have IF0 := Lib.hid hif0
  have HN := Lib.hid hn
  clear hK hKd hm h hfl hFb hFl hif0 hn
  go_enter Try.func7, Try.ntmps7
  go_wp2_with fail
  refine (head_any w).mono ?_
  rintro e w0 ⟨rfl, b0⟩
  have B0 := Lib.hid b0
  have hs0 := b0.size
  have H0 := Lib.hid (H.out.below b0)
  clear b0 H
  go_wp2_with fail
  refine (put_any u a len cap P w0 H0.out.row hu).mono ?_
  rintro e w1 ⟨b1, hif⟩
  rw [if_pos IF0.out, HN.out] at hif
  obtain ⟨g1, k1, rfl, ho1⟩ := hif
  have A1 := Lib.hid (ho1.arg FB.out)
  have B1 := Lib.hid (B0.out.trans (b1.mono hs0))
  have hs1 := B1.out.size
  clear b1 ho1 H0 B0 IF0
  generalize sealN (u :: P) = F at *
  go_wp2_with (at_builtin; refine wpList_append_bys rfl (.tmp 67) (.tmp 68) rfl w1.heap.size _ ?hB (.slice (some ⟨w1.heap.size, 0, none⟩) 0 0) 0 [] rfl ?own (some ⟨g1, 0, none⟩) (len + 3) k1 F rfl ?hby ?nil ?le ?_)
  case hB => simp
  case own => exact own_new (Nat.le_refl _)
  case nil => intro e; cases e
  case le => omega
  case hby => exact A1.out.row.below ((Below.refl _ _).alloc (Nat.le_refl _) _)
  intro v2 w2 ho2 hg2 hn2 hk2
  have b2 : Below w1.heap.size w1 w2 := ((Below.refl _ _).alloc (Nat.le_refl _) _).grown hg2 (by simp) (fun k hk => by simp [Value.ownBlock] at hk; omega)
  obtain ⟨g2, k2, rfl, ho2'⟩ := owns_slice ho2 hn2
  have ho3 : OwnR w1.heap.size w2 g2 k2 F := by have := ho2'.r; simpa using this
  have hg2' : w1.heap.size ≤ g2 ∧ len + 3 ≤ k2 ∧ k2 ≤ maxLen := by obtain ⟨_, _, h, _, h2, h3, _⟩ := ho2'.at; exact ⟨h, by omega, h3⟩
  obtain ⟨hgg, hc1, hc2⟩ := hg2'
  unfold maxLen at hc2
  have O3 := Lib.hid ho3
  have B2 := Lib.hid b2
  obtain ⟨c0, f0⟩ := ho3.cell q (by rw [FL.out]; omega)
  have hv0 : F.getD q 0 < 256 := getD_lt FB.out q
  have FL2 := Lib.hid FLP.out
  clear ho2 ho2' ho3 hg2 hn2 hk2 b2 A1 FLP
  generalize hv : F.getD q 0 = v0 at *
  clear hv
  have hq : (K : Int) / 8 = (q : Int) := by have := HKD.out; omega
  have hj : (K : Int) % 8 = 5 := by have := HKD.out; omega
  have hK0 : (0 : Int) ≤ (K : Int) := by omega
  have hK1 : (K : Int) ≤ 100000 := by have := HKD.out; omega

  go_wp2_with fail
  try rw [HK.out]
  go_wp2_with fail
  go_region
  go_wp2_with fail
  have oy := ((O3.out.put q _ (v0 ^^^ 32) (bits_xor_u8_nat v0 32 hv0 (by omega))).drew).b (n := len + 3) (by rw [List.length_set]; exact FL.out)
  have hxb : v0 ^^^ 32 < 256 := Nat.xor_lt_two_pow (n := 8) hv0 (by omega)
  have AY := Lib.hid (oy.arg (set_by FB.out q _ hxb))
  have B3 := Lib.hid (B1.out.trans ((((B2.out.setCell (p := ⟨g2, q, none⟩) hgg (.int .u8 (bits .xor .u8 (v0 : Int) 32))).drew)).mono hs1))
  have hs3 := B3.out.size
  clear oy hxb
  refine (get_any _ (len + 3) k2 _ _ AY.out).mono ?_
  rintro e w4 ⟨b4, hif⟩
  rw [FL2.out] at hif
  simp only at hif
  subst hif
  have B4 := Lib.hid (B3.out.trans (b4.mono hs3))
  clear b4
  go_wp2_with fail
  go_ret
  exact ⟨rfl, B4.out⟩

set_option maxRecDepth 100000 in
set_option maxHeartbeats 4000000 in
theorem bit6 (u : Nat) (hu : u < 256) (a : Option Addr) (len cap : Nat) (P : List Nat) (at' q : Nat) (w : World) (h : ArgB w a len cap P) (h0 : 0 < len) (h1 : len ≤ 253) (ht : at' ≤ 65535) (hm : at' % (8 * (len + 3)) = 8 * q + 6) :
    Calls Try.prog 7 #[.int .u8 (u : Int), .slice a len cap, .int .u16 (at' : Int), .bool false] w fun e w' => e = .returned (.bool true) ∧ Below w.heap.size w w' := by
  have hqk : q ≤ len + 2 := by have := Nat.mod_lt at' (show 0 < 8 * (len + 3) by omega); omega
  have hn := h.row.ln
  obtain ⟨K, hKd⟩ : ∃ K : Nat, K = 8 * q + 6 := ⟨_, rfl⟩
  have hK : ((at' : Int) % (8 * ((len : Int) + 3))) = (K : Int) := by
    have e : (8 * ((len : Int) + 3)) = ((8 * (len + 3) : Nat) : Int) := by omega
    rw [e, ← Int.natCast_emod, hm, hKd]
  have hfl := flip_get u P hu h.row.by' (by omega) (by omega) q 64 (by omega) (by omega) (by omega)
  have hFb := sealN_by (by_cons hu h.row.by')
  have hFl : (sealN (u :: P)).length = len + 3 := by rw [sealN_len]; simp [hn]
  have hif0 : 0 < P.length ∧ P.length ≤ 253 := by omega
  have d1 : decide (253 < (len : Int)) = false := by simp; omega
  have d2 : ((len : Int) + 3 == 0) = false := by simp; omega
  have HK := Lib.hid hK
  have HKD := Lib.hid hKd
  have H := Lib.hid h
  have FLP := Lib.hid hfl
  have FB := Lib.hid hFb
  have FL := Lib.hid hFl
  have IF0 := Lib.hid hif0
  have HN := Lib.hid hn
  clear hK hKd hm h hfl hFb hFl hif0 hn
  go_enter Try.func7, Try.ntmps7
  go_wp2_with fail
  refine (head_any w).mono ?_
  rintro e w0 ⟨rfl, b0⟩
  have B0 := Lib.hid b0
  have hs0 := b0.size
  have H0 := Lib.hid (H.out.below b0)
  clear b0 H
  go_wp2_with fail
  refine (put_any u a len cap P w0 H0.out.row hu).mono ?_
  rintro e w1 ⟨b1, hif⟩
  rw [if_pos IF0.out, HN.out] at hif
  obtain ⟨g1, k1, rfl, ho1⟩ := hif
  have A1 := Lib.hid (ho1.arg FB.out)
  have B1 := Lib.hid (B0.out.trans (b1.mono hs0))
  have hs1 := B1.out.size
  clear b1 ho1 H0 B0 IF0
  generalize sealN (u :: P) = F at *
  go_wp2_with (at_builtin; refine wpList_append_bys rfl (.tmp 67) (.tmp 68) rfl w1.heap.size _ ?hB (.slice (some ⟨w1.heap.size, 0, none⟩) 0 0) 0 [] rfl ?own (some ⟨g1, 0, none⟩) (len + 3) k1 F rfl ?hby ?nil ?le ?_)
  case hB => simp
  case own => exact own_new (Nat.le_refl _)
  case nil => intro e; cases e
  case le => omega
  case hby => exact A1.out.row.below ((Below.refl _ _).alloc (Nat.le_refl _) _)
  intro v2 w2 ho2 hg2 hn2 hk2
  have b2 : Below w1.heap.size w1 w2 := ((Below.refl _ _).alloc (Nat.le_refl _) _).grown hg2 (by simp) (fun k hk => by simp [Value.ownBlock] at hk; omega)
  obtain ⟨g2, k2, rfl, ho2'⟩ := owns_slice ho2 hn2
  have ho3 : OwnR w1.heap.size w2 g2 k2 F := by have := ho2'.r; simpa using this
  have hg2' : w1.heap.size ≤ g2 ∧ len + 3 ≤ k2 ∧ k2 ≤ maxLen := by obtain ⟨_, _, h, _, h2, h3, _⟩ := ho2'.at; exact ⟨h, by omega, h3⟩
  obtain ⟨hgg, hc1, hc2⟩ := hg2'
  unfold maxLen at hc2
  have O3 := Lib.hid ho3
  have B2 := Lib.hid b2
  obtain ⟨c0, f0⟩ := ho3.cell q (by rw [FL.out]; omega)
  have hv0 : F.getD q 0 < 256 := getD_lt FB.out q
  have FL2 := Lib.hid FLP.out
  clear ho2 ho2' ho3 hg2 hn2 hk2 b2 A1 FLP
  generalize hv : F.getD q 0 = v0 at *
  clear hv
  have hq : (K : Int) / 8 = (q : Int) := by have := HKD.out; omega
  have hj : (K : Int) % 8 = 6 := by have := HKD.out; omega
  have hK0 : (0 : Int) ≤ (K : Int) := by omega
  have hK1 : (K : Int) ≤ 100000 := by have := HKD.out; omega

  go_wp2_with fail
  try rw [HK.out]
  go_wp2_with fail
  go_region
  go_wp2_with fail
  have oy := ((O3.out.put q _ (v0 ^^^ 64) (bits_xor_u8_nat v0 64 hv0 (by omega))).drew).b (n := len + 3) (by rw [List.length_set]; exact FL.out)
  have hxb : v0 ^^^ 64 < 256 := Nat.xor_lt_two_pow (n := 8) hv0 (by omega)
  have AY := Lib.hid (oy.arg (set_by FB.out q _ hxb))
  have B3 := Lib.hid (B1.out.trans ((((B2.out.setCell (p := ⟨g2, q, none⟩) hgg (.int .u8 (bits .xor .u8 (v0 : Int) 64))).drew)).mono hs1))
  have hs3 := B3.out.size
  clear oy hxb
  refine (get_any _ (len + 3) k2 _ _ AY.out).mono ?_
  rintro e w4 ⟨b4, hif⟩
  rw [FL2.out] at hif
  simp only at hif
  subst hif
  have B4 := Lib.hid (B3.out.trans (b4.mono hs3))
  clear b4
  go_wp2_with fail
  go_ret
  exact ⟨rfl, B4.out⟩

set_option maxRecDepth 100000 in
set_option maxHeartbeats 4000000 in
theorem bit7 (u : Nat) (hu : u < 256) (a : Option Addr) (len cap : Nat) (P : List Nat) (at' q : Nat) (w : World) (h : ArgB w a len cap P) (h0 : 0 < len) (h1 : len ≤ 253) (ht : at' ≤ 65535) (hm : at' % (8 * (len + 3)) = 8 * q + 7) :
    Calls Try.prog 7 #[.int .u8 (u : Int), .slice a len cap, .int .u16 (at' : Int), .bool false] w fun e w' => e = .returned (.bool true) ∧ Below w.heap.size w w' := by
  have hqk : q ≤ len + 2 := by have := Nat.mod_lt at' (show 0 < 8 * (len + 3) by omega); omega
  have hn := h.row.ln
  obtain ⟨K, hKd⟩ : ∃ K : Nat, K = 8 * q + 7 := ⟨_, rfl⟩
  have hK : ((at' : Int) % (8 * ((len : Int) + 3))) = (K : Int) := by
    have e : (8 * ((len : Int) + 3)) = ((8 * (len + 3) : Nat) : Int) := by omega
    rw [e, ← Int.natCast_emod, hm, hKd]
  have hfl := flip_get u P hu h.row.by' (by omega) (by omega) q 128 (by omega) (by omega) (by omega)
  have hFb := sealN_by (by_cons hu h.row.by')
  have hFl : (sealN (u :: P)).length = len + 3 := by rw [sealN_len]; simp [hn]
  have hif0 : 0 < P.length ∧ P.length ≤ 253 := by omega
  have d1 : decide (253 < (len : Int)) = false := by simp; omega
  have d2 : ((len : Int) + 3 == 0) = false := by simp; omega
  have HK := Lib.hid hK
  have HKD := Lib.hid hKd
  have H := Lib.hid h
  have FLP := Lib.hid hfl
  have FB := Lib.hid hFb
  have FL := Lib.hid hFl
  have IF0 := Lib.hid hif0
  have HN := Lib.hid hn
  clear hK hKd hm h hfl hFb hFl hif0 hn
  go_enter Try.func7, Try.ntmps7
  go_wp2_with fail
  refine (head_any w).mono ?_
  rintro e w0 ⟨rfl, b0⟩
  have B0 := Lib.hid b0
  have hs0 := b0.size
  have H0 := Lib.hid (H.out.below b0)
  clear b0 H
  go_wp2_with fail
  refine (put_any u a len cap P w0 H0.out.row hu).mono ?_
  rintro e w1 ⟨b1, hif⟩
  rw [if_pos IF0.out, HN.out] at hif
  obtain ⟨g1, k1, rfl, ho1⟩ := hif
  have A1 := Lib.hid (ho1.arg FB.out)
  have B1 := Lib.hid (B0.out.trans (b1.mono hs0))
  have hs1 := B1.out.size
  clear b1 ho1 H0 B0 IF0
  generalize sealN (u :: P) = F at *
  go_wp2_with (at_builtin; refine wpList_append_bys rfl (.tmp 67) (.tmp 68) rfl w1.heap.size _ ?hB (.slice (some ⟨w1.heap.size, 0, none⟩) 0 0) 0 [] rfl ?own (some ⟨g1, 0, none⟩) (len + 3) k1 F rfl ?hby ?nil ?le ?_)
  case hB => simp
  case own => exact own_new (Nat.le_refl _)
  case nil => intro e; cases e
  case le => omega
  case hby => exact A1.out.row.below ((Below.refl _ _).alloc (Nat.le_refl _) _)
  intro v2 w2 ho2 hg2 hn2 hk2
  have b2 : Below w1.heap.size w1 w2 := ((Below.refl _ _).alloc (Nat.le_refl _) _).grown hg2 (by simp) (fun k hk => by simp [Value.ownBlock] at hk; omega)
  obtain ⟨g2, k2, rfl, ho2'⟩ := owns_slice ho2 hn2
  have ho3 : OwnR w1.heap.size w2 g2 k2 F := by have := ho2'.r; simpa using this
  have hg2' : w1.heap.size ≤ g2 ∧ len + 3 ≤ k2 ∧ k2 ≤ maxLen := by obtain ⟨_, _, h, _, h2, h3, _⟩ := ho2'.at; exact ⟨h, by omega, h3⟩
  obtain ⟨hgg, hc1, hc2⟩ := hg2'
  unfold maxLen at hc2
  have O3 := Lib.hid ho3
  have B2 := Lib.hid b2
  obtain ⟨c0, f0⟩ := ho3.cell q (by rw [FL.out]; omega)
  have hv0 : F.getD q 0 < 256 := getD_lt FB.out q
  have FL2 := Lib.hid FLP.out
  clear ho2 ho2' ho3 hg2 hn2 hk2 b2 A1 FLP
  generalize hv : F.getD q 0 = v0 at *
  clear hv
  have hq : (K : Int) / 8 = (q : Int) := by have := HKD.out; omega
  have hj : (K : Int) % 8 = 7 := by have := HKD.out; omega
  have hK0 : (0 : Int) ≤ (K : Int) := by omega
  have hK1 : (K : Int) ≤ 100000 := by have := HKD.out; omega

  go_wp2_with fail
  try rw [HK.out]
  go_wp2_with fail
  go_region
  go_wp2_with fail
  have oy := ((O3.out.put q _ (v0 ^^^ 128) (bits_xor_u8_nat v0 128 hv0 (by omega))).drew).b (n := len + 3) (by rw [List.length_set]; exact FL.out)
  have hxb : v0 ^^^ 128 < 256 := Nat.xor_lt_two_pow (n := 8) hv0 (by omega)
  have AY := Lib.hid (oy.arg (set_by FB.out q _ hxb))
  have B3 := Lib.hid (B1.out.trans ((((B2.out.setCell (p := ⟨g2, q, none⟩) hgg (.int .u8 (bits .xor .u8 (v0 : Int) 128))).drew)).mono hs1))
  have hs3 := B3.out.size
  clear oy hxb
  refine (get_any _ (len + 3) k2 _ _ AY.out).mono ?_
  rintro e w4 ⟨b4, hif⟩
  rw [FL2.out] at hif
  simp only at hif
  subst hif
  have B4 := Lib.hid (B3.out.trans (b4.mono hs3))
  clear b4
  go_wp2_with fail
  go_ret
  exact ⟨rfl, B4.out⟩
end Go.Proofs.Ytdlcfnpnfdlahaa
