/- The document's bytes of a request: what begins with Fc. -/
import Derived.Test.YthcfmfkdglmkmaaWb
namespace Go.Proofs.Ythcfmfkdglmkmaa
set_option linter.unusedVariables false
set_option linter.unusedSimpArgs false
open Go.ChangeShapes Go.WideShapes Go.ChangeAt Go.RowKit

/-- Bytes of the call's own that begin with this one. -/
def HeadP (w : World) (fc : Nat) (e : Ending) (w' : World) : Prop := ∃ v L, e = .returned v ∧ OwnV w.heap.size w' v (fc :: L) ∧ (∀ b ∈ fc :: L, b < 256) ∧ (fc :: L).length ≤ 300 ∧ Below w.heap.size w w'
set_option maxRecDepth 100000 in
set_option maxHeartbeats 8000000 in
theorem bytesA_any (r : Rq) (w : World) (hr : r.ok w) (hh : rightR r = true) (h15 : r.fc = 1 ∨ r.fc = 2 ∨ r.fc = 3 ∨ r.fc = 4) : Calls Try.prog 26 #[rv r] w (HeadP w r.fc.toNat) := by
  obtain ⟨P, hP⟩ : ∃ P, P = (HeadP w r.fc.toNat : Ending → World → Prop) := ⟨_, rfl⟩
  rw [← hP]
  have HP := Lib.hid hP
  obtain ⟨hk, hf1, hf2, hq1, hq2⟩ := right_facts hh
  have hft := fit_of (rt_of hh).hh
  obtain ⟨fc, ad, q, vs, vn, vc, V, rto⟩ := r
  simp only at hf1 hf2 hq1 hq2 hft h15 HP
  obtain ⟨fc, rfl⟩ : ∃ k : Nat, fc = (k : Int) := ⟨fc.toNat, by omega⟩
  obtain ⟨ad, rfl⟩ : ∃ k : Nat, ad = (k : Int) := ⟨ad.toNat, by omega⟩
  obtain ⟨q, rfl⟩ : ∃ k : Nat, q = (k : Int) := ⟨q.toNat, by omega⟩
  have had : ad < 65536 := by omega
  have hqq : q < 65536 := by omega
  rw [Int.toNat_natCast] at HP
  simp only [rv]
  have i0 : IntKind.u8.wrap (fc : Int) = (fc : Int) := by simp [IntKind.wrap, IntKind.bits, IntKind.signed]; omega
  have FIN : Hid (∀ W' v L, OwnV w.heap.size W' v (fc :: L) → (∀ b ∈ fc :: L, b < 256) → (fc :: L).length ≤ 300 → Below w.heap.size w W' → P (.returned v) W') := Lib.hid (fun W' v L h1 h2 h3 h4 => by
    rw [HP.out]; exact ⟨v, L, rfl, h1, h2, h3, h4⟩)
  have k1 := alloc_bq w (.cells #[.int .i64 (fc : Int), .int .i64 (ad : Int), .int .i64 (q : Int), .slice vs vn vc, .int .i64 rto] 24 (0, 0))
  have k2 := alloc_bq (w.alloc (.cells #[.int .i64 (fc : Int), .int .i64 (ad : Int), .int .i64 (q : Int), .slice vs vn vc, .int .i64 rto] 24 (0, 0))) (.cells #[.int .u8 (fc : Int)] 5 (0, 0))
  have bw := k1.trans (k2.mono k1.size)
  obtain ⟨W, hW⟩ : ∃ W, W = (w.alloc (.cells #[.int .i64 (fc : Int), .int .i64 (ad : Int), .int .i64 (q : Int), .slice vs vn vc, .int .i64 rto] 24 (0, 0))).alloc (.cells #[.int .u8 (fc : Int)] 5 (0, 0)) := ⟨_, rfl⟩
  have ho : OwnV w.heap.size W (.slice (some ⟨w.heap.size + 1, 0, none⟩) 1 1) [fc] := by
    refine ⟨rfl, .inr ⟨w.heap.size + 1, 1, #[.int .u8 (fc : Int)], rfl, Nat.le_succ _, ?_, Nat.le_refl _, by unfold maxLen; omega, rfl, rfl⟩⟩
    have := heap_alloc_new (w.alloc (.cells #[.int .i64 (fc : Int), .int .i64 (ad : Int), .int .i64 (q : Int), .slice vs vn vc, .int .i64 rto] 24 (0, 0))) (.cells #[.int .u8 (fc : Int)] 5 (0, 0))
    rw [World.size_alloc] at this
    rw [hW]
    exact this
  have X0 := Lib.hid (show W.heap[w.heap.size]? = some (.cells #[.int .i64 (fc : Int), .int .i64 (ad : Int), .int .i64 (q : Int), .slice vs vn vc, .int .i64 rto] 24 (0, 0)) by rw [hW]; exact low_of k2 (heap_alloc_new w (.cells #[.int .i64 (fc : Int), .int .i64 (ad : Int), .int .i64 (q : Int), .slice vs vn vc, .int .i64 rto] 24 (0, 0))))
  rw [← hW] at bw
  have B0 := Lib.hid bw
  have WD := word14_any w.heap.size _ [fc] ad W bw.size ho had (by simp)
  have HW := Lib.hid hW
  have W1 := Lib.hid WD
  clear hP hr hh hft k1 k2 bw hW ho WD hk
  go_enter Try.func26, Try.ntmps26
  go_wp2_with fail
  rw [← HW.out]
  refine W1.out.mono ?_
  rintro e w1 ⟨v1, rfl, o1, z1, frm, ob1⟩
  have x1 : w1.heap[w.heap.size]? = some (.cells #[.int .i64 (fc : Int), .int .i64 (ad : Int), .int .i64 (q : Int), .slice vs vn vc, .int .i64 rto] 24 (0, 0)) := by
    refine (frm _ (by have := blk_lt X0.out; omega) ?_).trans X0.out
    simp [Value.ownBlock]
  have B1 := Lib.hid (B0.out.trans (z1.mono (Nat.le_refl _)))
  obtain ⟨c0, c1, c2, c3, c4⟩ := cells5 x1
  have WD2 := word14_any w.heap.size v1 ([fc] ++ wb [ad]) q w1 B1.out.size o1 hqq (by simp [wb_len])
  have W2 := Lib.hid WD2
  have f5 : ((fc : Int) == 5) = false := by simp; omega
  have f6 : ((fc : Int) == 6) = false := by simp; omega
  have f22 : ((fc : Int) == 22) = false := by simp; omega
  have f15 : ((fc : Int) == 15) = false := by simp; omega
  have f16 : ((fc : Int) == 16) = false := by simp; omega
  have f23 : ((fc : Int) == 23) = false := by simp; omega
  have X1 := Lib.hid x1
  have OB := Lib.hid ob1
  clear h15 WD2 x1 o1 z1 frm ob1
  go_wp2_with fail
  refine W2.out.mono ?_
  rintro e w2 ⟨v2, rfl, o2, z2, frm, ob2⟩
  have x2 : w2.heap[w.heap.size]? = some (.cells #[.int .i64 (fc : Int), .int .i64 (ad : Int), .int .i64 (q : Int), .slice vs vn vc, .int .i64 rto] 24 (0, 0)) := by
    refine (frm _ (by have := blk_lt X1.out; omega) ?_).trans X1.out
    intro e
    rcases OB.out _ e with h | h
    · simp [Value.ownBlock] at h
    · have := blk_lt X0.out; omega
  have B2 := Lib.hid (B1.out.trans z2)
  have O2 := Lib.hid o2
  obtain ⟨c0, c1, c2, c3, c4⟩ := cells5 x2
  clear o2 z2 frm ob2 x2
  go_wp2_with fail
  refine FIN.out _ _ (wb [ad] ++ wb [q]) (by have := O2.out; rwa [List.append_assoc] at this) ?_ (by simp [wb_len]) B2.out
  intro b hb
  simp only [List.mem_cons, List.mem_append] at hb
  rcases hb with e | e | e
  · omega
  · exact wb_by1 had b e
  · exact wb_by1 hqq b e
end Go.Proofs.Ythcfmfkdglmkmaa
