/- The document's bytes: 15. -/
import Derived.Test.YthcfmfkdglmkmaaWd
namespace Go.Proofs.Ythcfmfkdglmkmaa
set_option linter.unusedVariables false
set_option linter.unusedSimpArgs false
open Go.ChangeShapes Go.WideShapes Go.ChangeAt Go.RowKit

set_option maxRecDepth 100000 in
set_option maxHeartbeats 8000000 in
theorem bytes15_any (r : Rq) (w : World) (hr : r.ok w) (hh : rightR r = true) (h15 : r.fc = 15) : Calls Try.prog 26 #[rv r] w (HeadP w r.fc.toNat) := by
  obtain ⟨P, hP⟩ : ∃ P, P = (HeadP w r.fc.toNat : Ending → World → Prop) := ⟨_, rfl⟩
  rw [← hP]
  have HP := Lib.hid hP
  obtain ⟨hk, hf1, hf2, hq1, hq2⟩ := right_facts hh
  have hft := fit_of (rt_of hh).hh
  have harg := hr.arg
  have hV : r.V.length ≤ 1968 := by
    have := hft.1.vmo
    have h5 : fo r.fc = ⟨false, true, true, 1968, 1, 1968, true, false⟩ := by rw [h15]; rfl
    rw [h5] at this; simp at this; omega
  obtain ⟨fc, ad, q, vs, vn, vc, V, rto⟩ := r
  simp only at hf1 hf2 hq1 hq2 hft h15 HP harg hV
  obtain ⟨fc, rfl⟩ : ∃ k : Nat, fc = (k : Int) := ⟨fc.toNat, by omega⟩
  obtain ⟨ad, rfl⟩ : ∃ k : Nat, ad = (k : Int) := ⟨ad.toNat, by omega⟩
  obtain ⟨q, rfl⟩ : ∃ k : Nat, q = (k : Int) := ⟨q.toNat, by omega⟩
  have had : ad < 65536 := by omega
  have hqq : q < 65536 := by omega
  rw [Int.toNat_natCast] at HP
  simp only [rv]
  have i0 : IntKind.u8.wrap (fc : Int) = (fc : Int) := by simp [IntKind.wrap, IntKind.bits, IntKind.signed]; omega
  have FIN : Hid (∀ W' v L, OwnV w.heap.size W' v (fc :: L) → (∀ b ∈ fc :: L, b < 256) → (fc :: L).length ≤ 300 → Below w.heap.size w W' → P (.returned v) W') := Lib.hid (fun W' v L h1 h2 h3 h4 => by
    rw [HP.out]; exact ⟨v, L, rfl, h1, h2, h3, h4⟩)
  have k1 := alloc_bq w (.cells #[.int .i64 (fc : Int), .int .i64 (ad : Int), .int .i64 (q : Int), .slice vs vn vc, .int .i64 rto] 24 (0, 0))
  have k2 := alloc_bq (w.alloc (.cells #[.int .i64 (fc : Int), .int .i64 (ad : Int), .int .i64 (q : Int), .slice vs vn vc, .int .i64 rto] 24 (0, 0))) (.cells #[.int .u8 (fc : Int)] 5 (0, 0))
  have bw := k1.trans (k2.mono k1.size)
  obtain ⟨W, hW⟩ : ∃ W, W = (w.alloc (.cells #[.int .i64 (fc : Int), .int .i64 (ad : Int), .int .i64 (q : Int), .slice vs vn vc, .int .i64 rto] 24 (0, 0))).alloc (.cells #[.int .u8 (fc : Int)] 5 (0, 0)) := ⟨_, rfl⟩
  have ho : OwnV w.heap.size W (.slice (some ⟨w.heap.size + 1, 0, none⟩) 1 1) [fc] := by
    refine ⟨rfl, .inr ⟨w.heap.size + 1, 1, #[.int .u8 (fc : Int)], rfl, Nat.le_succ _, ?_, Nat.le_refl _, by unfold maxLen; omega, rfl, rfl⟩⟩
    have := heap_alloc_new (w.alloc (.cells #[.int .i64 (fc : Int), .int .i64 (ad : Int), .int .i64 (q : Int), .slice vs vn vc, .int .i64 rto] 24 (0, 0))) (.cells #[.int .u8 (fc : Int)] 5 (0, 0))
    rw [World.size_alloc] at this
    rw [hW]
    exact this
  have X0 := Lib.hid (show W.heap[w.heap.size]? = some (.cells #[.int .i64 (fc : Int), .int .i64 (ad : Int), .int .i64 (q : Int), .slice vs vn vc, .int .i64 rto] 24 (0, 0)) by rw [hW]; exact low_of k2 (heap_alloc_new w (.cells #[.int .i64 (fc : Int), .int .i64 (ad : Int), .int .i64 (q : Int), .slice vs vn vc, .int .i64 rto] 24 (0, 0))))
  rw [← hW] at bw
  have B0 := Lib.hid bw
  have WD := word14_any w.heap.size _ [fc] ad W bw.size ho had (by simp)
  have HW := Lib.hid hW
  have W1 := Lib.hid WD
  have HARG := Lib.hid harg
  have HV := Lib.hid hV
  have H15 := Lib.hid h15
  clear hP hr hh hft k1 k2 bw hW ho WD hk harg hV h15
  go_enter Try.func26, Try.ntmps26
  go_wp2_with fail
  rw [← HW.out]
  refine W1.out.mono ?_
  rintro e w1 ⟨v1, rfl, o1, z1, frm, ob1⟩
  have x1 : w1.heap[w.heap.size]? = some (.cells #[.int .i64 (fc : Int), .int .i64 (ad : Int), .int .i64 (q : Int), .slice vs vn vc, .int .i64 rto] 24 (0, 0)) := by
    refine (frm _ (by have := blk_lt X0.out; omega) ?_).trans X0.out
    simp [Value.ownBlock]
  have B1 := Lib.hid (B0.out.trans (z1.mono (Nat.le_refl _)))
  obtain ⟨c0, c1, c2, c3, c4⟩ := cells5 x1
  have WD2 := word14_any w.heap.size v1 ([fc] ++ wb [ad]) q w1 B1.out.size o1 hqq (by simp [wb_len])
  have W2 := Lib.hid WD2
  have h15 : fc = 15 := by have := H15.out; omega
  have f5 : ((fc : Int) == 5) = false := by simp; omega
  have f6 : ((fc : Int) == 6) = false := by simp; omega
  have f22 : ((fc : Int) == 22) = false := by simp; omega
  have f15 : ((fc : Int) == 15) = true := by simp; omega
  have X1 := Lib.hid x1
  have OB := Lib.hid ob1
  clear h15 WD2 x1 o1 z1 frm ob1
  go_wp2_with fail
  refine W2.out.mono ?_
  rintro e w2 ⟨v2, rfl, o2, z2, frm, ob2⟩
  have x2 : w2.heap[w.heap.size]? = some (.cells #[.int .i64 (fc : Int), .int .i64 (ad : Int), .int .i64 (q : Int), .slice vs vn vc, .int .i64 rto] 24 (0, 0)) := by
    refine (frm _ (by have := blk_lt X1.out; omega) ?_).trans X1.out
    intro e
    rcases OB.out _ e with h | h
    · simp [Value.ownBlock] at h
    · have := blk_lt X0.out; omega
  have B2 := Lib.hid (B1.out.trans z2)
  have O2 := Lib.hid o2
  obtain ⟨c0, c1, c2, c3, c4⟩ := cells5 x2
  clear o2 z2 frm x2
  have BD := Lib.hid (bitsD_any vs vn vc V w2 (HARG.out.row.below B2.out) (by have := HV.out; have := HARG.out.row.ln; omega))
  go_wp2_with fail
  refine BD.out.mono ?_
  rintro e w3 ⟨g, rfl, hg3, hs3, z3⟩
  have hb8 := bits_len V
  obtain ⟨k, hk⟩ : ∃ k, k = (bits V).length := ⟨_, rfl⟩
  have hk2 : k ≤ 246 := by have := HV.out; omega
  rw [← hk]
  have BY3 : Hid (Bys w3 (some ⟨g, 0, none⟩) k (bits V)) := Lib.hid (by rw [hk]; exact bys_block (t := 5) (m := (0, 0)) (bits V) (by unfold maxLen; omega) (bits_by V) hg3)
  obtain ⟨m, hm⟩ : ∃ m, m = ([fc] ++ wb [ad] ++ wb [q]).length := ⟨_, rfl⟩
  have o3 : w3.ownsRow w.heap.size 5 1 v2 m (bv ([fc] ++ wb [ad] ++ wb [q])) := by rw [hm]; exact O2.out.keep z3
  have hm5 : m = 5 := by rw [hm]; simp [wb_len]
  have hgn : ∀ b', v2.ownBlock = some b' → b' ≠ g := by
    intro b' hb' e
    have := (O2.out.blk b' hb').2
    omega
  obtain ⟨va, vd, rfl⟩ := own_form o3
  have O3 := Lib.hid o3
  have B3 := Lib.hid (B2.out.trans (z3.mono B2.out.size))
  have GL := Lib.hid (blk_lt hg3)
  have HK := Lib.hid hk
  have HG3 := Lib.hid hg3
  have HK2 := Lib.hid hk2
  have HM5 := Lib.hid hm5
  have HGN := Lib.hid hgn
  have c8 : IntKind.u8.wrap (k : Int) = (k : Int) := by simp [IntKind.wrap, IntKind.bits, IntKind.signed]; omega
  have OA : Hid ((w3.alloc (.cells #[.int .u8 (k : Int)] 5 (0, 0))).ownsRow w.heap.size 5 1 (.slice va m vd) m (bv ([fc] ++ wb [ad] ++ wb [q]))) := Lib.hid (own_keep o3 (alloc_bq _ _))
  have BYA : Hid (Bys (w3.alloc (.cells #[.int .u8 (k : Int)] 5 (0, 0))) (some ⟨w3.heap.size, 0, none⟩) 1 [k]) := Lib.hid (bys_block [k] (by simp [maxLen]) (by intro b hb; simp at hb; omega) (by rw [heap_alloc_new]; simp [bv]) (t := 5) (m := (0, 0)))
  have BYB := Lib.hid (BY3.out.below (alloc_bq w3 (.cells #[.int .u8 (k : Int)] 5 (0, 0))))
  have BA := Lib.hid (B3.out.alloc (o := .cells #[.int .u8 (k : Int)] 5 (0, 0)) B3.out.size)
  clear hk hm hm5 hgn hg3 hs3 z3 o3 hb8 c0 c1 c2 c3 c4
  go_wp2_with (at_builtin; refine wpList_append_bys rfl (.tmp 43) (.tmp 47) rfl w.heap.size _ BA.out.size _ m ([fc] ++ wb [ad] ++ wb [q]) rfl OA.out (some ⟨w3.heap.size, 0, none⟩) 1 1 [k] rfl BYA.out (fun e => by cases e) (by have := HM5.out; omega) ?_)
  intro v4 w4 ho4 hg4 _ hob4
  have w4g : w4.heap[g]? = some (.cells (bv (bits V)).toArray 5 (0, 0)) := by
    refine (hg4.block g (by have := GL.out; simp; omega) (fun e => HGN.out g e.symm rfl)).trans ?_
    exact (heap_alloc_old _ _ GL.out).trans HG3.out
  have BYC : Hid (Bys w4 (some ⟨g, 0, none⟩) k (bits V)) := Lib.hid (by rw [HK.out]; exact bys_block (t := 5) (m := (0, 0)) (bits V) (by unfold maxLen; have := HK.out; omega) (bits_by V) w4g)
  have B4 := Lib.hid (BA.out.grown hg4 BA.out.size (fun q hq => (World.ownsRow.lt OA.out q hq).1))
  obtain ⟨va4, vd4, rfl⟩ := own_form ho4
  have O4 := Lib.hid ho4
  clear ho4 hg4 hob4 w4g
  go_wp2_with (at_builtin; refine wpList_append_bys rfl (.tmp 48) (.tmp 49) rfl w.heap.size _ B4.out.size _ (m + 1) ([fc] ++ wb [ad] ++ wb [q] ++ [k]) rfl O4.out (some ⟨g, 0, none⟩) k k (bits V) rfl BYC.out (fun e => by cases e) (by have := HM5.out; omega) ?_)
  intro v5 w5 ho5 hg5 _ hob5
  have B5 : Below w.heap.size w w5 := B4.out.grown hg5 B4.out.size (fun q hq => (World.ownsRow.lt O4.out q hq).1)
  have FF : Hid (P (.returned v5) w5) := Lib.hid (by
    refine FIN.out _ _ (wb [ad] ++ wb [q] ++ [k] ++ bits V) ?_ ?_ (by have := HK.out; simp [wb_len] at *; omega) B5
    · unfold OwnV
      have e : (fc :: (wb [ad] ++ wb [q] ++ [k] ++ bits V)).length = m + 1 + k := by have := HK.out; have := HM5.out; simp [wb_len] at *; omega
      rw [e]
      have e2 : fc :: (wb [ad] ++ wb [q] ++ [k] ++ bits V) = [fc] ++ wb [ad] ++ wb [q] ++ [k] ++ bits V := by simp
      rw [e2]
      exact ho5
    · intro b hb
      simp only [List.mem_cons, List.mem_append] at hb
      rcases hb with e | ((e | e) | e) | e
      · omega
      · exact wb_by1 had b e
      · exact wb_by1 hqq b e
      · rcases e with e | e
        · omega
        · simp at e
      · exact bits_by V b e)
  clear ho5 hg5 hob5 B5
  go_wp2_with fail
  exact FF.out
end Go.Proofs.Ythcfmfkdglmkmaa
