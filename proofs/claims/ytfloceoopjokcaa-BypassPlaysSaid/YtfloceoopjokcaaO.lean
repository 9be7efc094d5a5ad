/- BypassLapses. -/
import Derived.Test.YtfloceoopjokcaaK
import Derived.SizedLaws
import Derived.HandedShaped
namespace Go.Proofs.Ytfloceoopjokcaa
set_option linter.unusedVariables false
open Go.ChangeShapes Go.WideShapes Go.ChangeAt Go.RowKit

theorem bytes2 : Try.prog.bytesOf 2 = 8 := by kernel_rfl
/-- Numbers that came in. -/
theorem arg_i64_z {H : Type} {enc : TypeId × Value → H} {w : World} {fuel : Nat} {a : Option Addr} {len cap : Nat} {x : DataW H × List MemPlace} (h : DataW.trod enc Try.prog w 0 (fun _ => true) true fuel 22 [.slice a len cap] = some x) :
    ∃ L : List Int, ArgI w a len cap L ∧ ∀ (ts : List TypeId) (ds : List (DataW H)) (j : Nat), (DataW.weightsEach Try.prog ts ds).all (· ≤ reachBytes) = true → ts[j]? = some 22 → ds[j]? = some x.1 → cap * 8 ≤ 140737488355328 := by
  rcases open_ints (k := .i64) Try.underlying22 Try.underlying2 (by kernel_rfl) h with ⟨hcs, _⟩ | ⟨y, l, c, zs, hcs, _, hl, hm, hzz, hx, hcell, hwz⟩
  · simp at hcs
    obtain ⟨rfl, rfl, rfl⟩ := hcs
    exact ⟨[], ⟨Ir.nil _ _, fun _ => ⟨rfl, rfl⟩, Nat.le_refl _, Nat.zero_le _⟩, fun ts ds j hz ht hd => by omega⟩
  · simp at hcs
    obtain ⟨rfl, rfl, rfl⟩ := hcs
    have hz' : zs.length = cap := by simpa using hzz
    refine ⟨zs.take len, ⟨⟨by simp; omega, Nat.le_trans hl hm, fun x hx => hwz _ (List.mem_of_mem_take hx), ?_⟩, (fun e => by cases e), hl, hm⟩, fun ts ds j hz ht hd => ?_⟩
    · by_cases h0 : len = 0
      · exact .inl h0
      · right
        have hr : Row w (some y) len (fun i => .int .i64 (zs.getD i 0)) := Row.mk_of (Nat.le_trans hl hm) (fun i hi => hcell i (by omega))
        rcases hr.at' with z | ⟨b, off, e, hb, hc⟩
        · omega
        · refine ⟨b, off, e, hb, fun i hi => ?_⟩
          rw [hc i hi]
          have hi' : i < (zs.take len).length := by simp; omega
          have hi2 : i < zs.length := by omega
          simp [List.getD, List.getElem?_eq_getElem hi2, List.getElem?_take_of_lt hi]
    · subst hx
      have hs := sized_slice hz ht hd Try.underlying22
      rw [bytes2] at hs
      simp only [lits, List.length_map, List.length_take, List.length_drop] at hs
      have := reachBytes_lt
      omega
theorem aL_zero (n : Nat) : aL [] n 0 = List.replicate n 0 := by
  simp [aL, List.map_const']
/-- What Lapse leaves holds nothing that lapses. -/
theorem ov_again (L : List Int) (now : Int) (n : Nat) : ovL (dropAll L (ovL L now n)) now n = [] := by
  rw [List.eq_nil_iff_forall_not_mem]
  intro x hx
  rw [ovL_mem, dropAll_getD] at hx
  obtain ⟨h0, h1, h2, h3⟩ := hx
  split at h2
  · omega
  · rename_i hh
    rw [if_neg hh] at h3
    exact hh ((ovL_mem L now n _).2 ⟨by omega, by omega, by rw [Int.toNat_natCast]; exact h2, by rw [Int.toNat_natCast]; exact h3⟩)
/-- A row of zeros, made. -/
theorem make_i64 (w : World) (n : Nat) (hn : n * 8 ≤ 140737488355328) :
    ∃ w1, (Instr.makeSlice 22 (.int .i64 (n : Int)) (.int .i64 (n : Int))).run Try.prog w = .ok (.slice (some ⟨w.heap.size, 0, none⟩) n n) w1 ∧ w1.heap[w.heap.size]? = some (.cells (iv (List.replicate n 0)).toArray 2 (0, 0)) ∧ Below w.heap.size w w1 := by
  obtain ⟨ti, hti, hz0, hz1, hz2⟩ := info_parts info2
  obtain ⟨w1, hmk, ho, hg⟩ := run_make_full (P := Try.prog) w w.heap.size 22 2 ti (.int .i64 0) 1 Try.underlying22 hti hz0 hz1 .i64 .i64 n (by rw [hz2]; omega) (by unfold maxLen; omega) (Nat.le_refl _)
  refine ⟨w1, hmk, ?_, (Below.refl _ _).grown hg (Nat.le_refl _) (fun k e => by cases e)⟩
  obtain ⟨hl, ⟨hv, h0⟩ | ⟨g, cap, cur, hv, hg, hb, hl', hm, hs, ht⟩⟩ := ho
  · cases hv
  · simp only [Value.slice.injEq, Option.some.injEq, Addr.mk.injEq, and_true, true_and] at hv
    obtain ⟨rfl, rfl⟩ := hv
    have hc : cur.toList = iv (List.replicate n 0) := by
      rw [← aL_zero, ← made_aL [] n, ← ht, List.take_of_length_le (by simp [hs])]
    rw [hb, ← hc]
theorem row_arg {w : World} {g n : Nat} {L : List Int} (h : w.heap[g]? = some (.cells (iv L).toArray 2 (0, 0))) (hl : L.length = n) (hn : n ≤ maxLen) (hw : ∀ x ∈ L, (Lit.int .i64 x).wf = true) : ArgI w (some ⟨g, 0, none⟩) n n L :=
  ⟨⟨hl, hn, hw, .inr ⟨g, 0, rfl, blk_lt h, fun i hi => by have := (iv_cell h (k := i) (by rw [hl]; exact hi)).1; simpa using this⟩⟩, (fun e => by cases e), Nat.le_refl _, hn⟩

def LapsesP (w : World) (e : Ending) (w' : World) : Prop := e = .returned (.bool true) ∧ Below w.heap.size w w'
set_option maxRecDepth 100000 in
set_option maxHeartbeats 8000000 in
theorem lapses_any (w : World) (a : Option Addr) (n c : Nat) (L : List Int) (hA : ArgI w a n c L) (hn : n * 8 ≤ 140737488355328) (now : Int) :
    Calls Try.prog 4 #[.slice a n c, .int .i64 now] w (LapsesP w) := by
  have A := Lib.hid hA
  clear hA
  go_enter Try.func4, Try.ntmps4
  go_wp2_with fail
  refine (head_any w).mono ?_
  rintro e w1 ⟨rfl, b1⟩
  have hs1 := b1.size
  obtain ⟨w2, hmk, hcl, b2⟩ := make_i64 w1 n hn
  have Z := Lib.hid (row_arg hcl (n := n) (by simp) (by unfold maxLen; omega) (fun x hx => by rw [List.mem_replicate] at hx; rw [hx.2]; decide))
  have B2 := Lib.hid (b1.trans (b2.mono hs1))
  have hs2 := B2.out.size
  have hlen : (List.replicate n (0 : Int)).length = n := by simp
  have LN := Lib.hid hlen
  have hg : w.heap.size ≤ w1.heap.size := hs1
  clear b1 b2 hcl hlen
  go_wp2_with fail
  refine (new_any _ n n (List.replicate n 0) w2 Z.out hn).mono ?_
  rintro e w3 ⟨t, m, rfl, T3, b3⟩
  have B3 := Lib.hid (B2.out.trans (b3.mono hs2))
  have hm3 : w.heap.size ≤ m := by have := T3.hm; omega
  have T3' := Lib.hid T3
  clear T3 b3 hmk Z
  by_cases hg3 : 300 < n
  · have dg : decide ((300 : Int) < (n : Int)) = true := by simp; omega
    go_wp2_with fail
    go_ret
    exact ⟨rfl, B3.out⟩
  have dg : decide ((300 : Int) < (n : Int)) = false := by simp; omega
  go_wp2_with fail
  refine (load_any T3'.out a n c L (A.out.row.below B3.out) (fun b off e h0 => by
    obtain ⟨b', o', e', hb', _⟩ := A.out.row.pos h0
    rw [e'] at e
    simp only [Option.some.injEq, Addr.mk.injEq, and_true] at e
    omega)).mono ?_
  rintro e w4 (⟨rfl, rfl, hno⟩ | ⟨rfl, _, hbad, T4, f4⟩)
  · have hbad : L.any badI = true := hno.resolve_left (by rw [A.out.row.ln, LN.out]; simp)
    have HB := Lib.hid hbad
    clear hno hbad T3'
    go_wp2_with fail
    go_loop [7, 8] (fun bv i => ∃ k : Nat, k ≤ n ∧ i = .int .i64 k ∧ bv = .bool ((L.take k).any badI)) (fun _ i => n - (intOf i).toNat)
    case atStart => exact ⟨0, Nat.zero_le _, rfl, by simp⟩
    case round =>
      obtain ⟨k, hk, rfl, rfl⟩ := hrel
      by_cases hkn : k < n
      · obtain ⟨b, off, ha, _, hc⟩ := (A.out.row.below B3.out).pos (by omega)
        have hc0 := hc k hkn
        have hkl : k < L.length := by rw [A.out.row.ln]; exact hkn
        have hst : (L.take (k + 1)).any badI = ((L.take k).any badI || badI (L.getD k 0)) := by
          have h5 : L.take (k + 1) = L.take k ++ [L.getD k 0] := by
            rw [List.take_add_one, List.getElem?_eq_getElem hkl]
            simp [List.getD, List.getElem?_eq_getElem hkl]
          rw [h5, List.any_append]
          simp
        subst ha
        generalize L.getD k 0 = x at hc0 hst
        have HS := Lib.hid hst
        clear hst hc
        cases hq : (L.take k).any badI with
        | true =>
          rw [hq] at HS
          clear hq
          go_wp2_with fail
          go_round
          case rel => exact ⟨k + 1, by omega, by go_num, by rw [HS.out]; rfl⟩
          case measure => simp [intOf]; omega
        | false =>
          rw [hq] at HS
          clear hq
          by_cases hx1 : x < 0
          · have d1 : decide (x < 0) = true := by simpa using hx1
            have hb : badI x = true := by unfold badI; rw [d1]; rfl
            have HX := Lib.hid hb
            clear hb
            go_wp2_with fail
            go_round
            case rel => exact ⟨k + 1, by omega, by go_num, by rw [HS.out, HX.out]; rfl⟩
            case measure => simp [intOf]; omega
          · have d1 : decide (x < 0) = false := by simpa using hx1
            have hb : badI x = decide (2199023255552 < x) := by unfold badI; rw [d1]; rfl
            have HX := Lib.hid hb
            clear hb
            go_wp2_with fail
            go_round
            case rel => exact ⟨k + 1, by omega, by go_num, by rw [HS.out, HX.out]; rfl⟩
            case measure => simp [intOf]; omega
      · have hk' : k = n := by omega
        subst hk'
        rw [List.take_of_length_le (by rw [A.out.row.ln]; exact Nat.le_refl _), HB.out]
        go_wp2_with fail
        go_ret
        exact ⟨rfl, B3.out⟩
  · have hs3 := B3.out.size
    have B4 := Lib.hid (B3.out.trans (f4.below (by omega) hs3))
    have hs4 := B4.out.size
    have T := Lib.hid T4
    have AR := Lib.hid (A.out.row.below B4.out)
    have W4 := Lib.hid (⟨A.out.row.ln, A.out.row.wf⟩ : L.length = n ∧ _)
    have mlt := T4.lt.2
    clear T4 f4 hbad T3' B3 B2 A hs1 hs2 hs3 hg
    go_wp2_with fail
    go_loopw [9, 10] (fun v i wr => ∃ k : Nat, k ≤ n ∧ i = .int .i64 k ∧ wr.ownsRow w4.heap.size 3 1 v (ovL L now k).length (iv (ovL L now k)) ∧ Below w4.heap.size w4 wr) (fun _ i _ => n - (intOf i).toNat)
    case atStart => exact ⟨0, Nat.zero_le _, rfl, ⟨rfl, .inl ⟨rfl, rfl⟩⟩, Below.refl _ _⟩
    case round =>
      obtain ⟨wo, rfl⟩ : ∃ wo : World, wo = wr := ⟨_, rfl⟩
      obtain ⟨k, hk, rfl, hown, hbe⟩ := hrel
      by_cases hkn : k < n
      · obtain ⟨b, off, ha, hblt, hc⟩ := AR.out.pos (by omega)
        have hc0 : wo.cell? ⟨b, off + k, none⟩ = some (.int .i64 (L.getD k 0)) := (hbe.cell (p := ⟨b, off + k, none⟩) hblt).trans (hc k hkn)
        have hkw : (Lit.int .i64 (k : Int)).wf = true := wf_i64 (by omega) (by omega)
        have hov : ovL L now (k + 1) = if 0 < L.getD k 0 ∧ L.getD k 0 ≤ now then ovL L now k ++ [(k : Int)] else ovL L now k := rfl
        have his : isB L (k : Int) now = (decide (0 < L.getD k 0) && decide (now < L.getD k 0)) := by unfold isB unt; simp
        have hlen := ovL_len L now k
        have p1 : (0 : Int) ≤ (k : Int) := by omega
        have p2 : (k : Int) < (n : Int) := by omega
        subst ha
        obtain ⟨x, hx0⟩ : ∃ x, x = L.getD k 0 := ⟨_, rfl⟩
        rw [← hx0] at hc0 hov his
        have HX := Lib.hid hx0
        have HC := Lib.hid hc
        clear hx0
        have OV := Lib.hid hov
        have IS := Lib.hid his
        have O := Lib.hid hown
        have BE := Lib.hid hbe
        have TO := Lib.hid (T.out.below hbe)
        clear hov his hown hbe hc
        by_cases hx : 0 < x
        · have dx : decide (0 < x) = true := by simpa using hx
          by_cases hy : x ≤ now
          · have dy : decide (x ≤ now) = true := by simpa using hy
            have dz : decide (now < x) = false := by simp; omega
            have OV2 := Lib.hid (show ovL L now (k + 1) = ovL L now k ++ [(k : Int)] by rw [OV.out, if_pos ⟨hx, hy⟩])
            have IS2 := Lib.hid (show isB L (k : Int) now = false by rw [IS.out, dx, dz]; rfl)
            have hs := BE.out.size
            clear OV IS
            go_wp2_with (at_builtin; refine wpList_append_ir 33 3 Try.underlying33 info3 rfl (.tmp 78) (.tmp 80) rfl w4.heap.size _ ?hB _ (ovL L now k).length (ovL L now k) rfl ?own (some ⟨wo.heap.size, 0, none⟩) 1 1 [(k : Int)] rfl ?hby ?nil ?le ?_)
            case hB => simp; omega
            case own => exact O.out.alloc _
            case nil => intro e; cases e
            case le => omega
            case hby => exact (lit1 wo 3 (k : Int) hkw).row
            intro v2 w5 ho2 hg2 hn2 hk2
            have hb2 : Below w4.heap.size w4 w5 := (BE.out.alloc hs _).grown hg2 (by simp; omega) (fun q hq => (O.out.lt q hq).1)
            have ho3 : w5.ownsRow w4.heap.size 3 1 v2 (ovL L now (k + 1)).length (iv (ovL L now (k + 1))) := by
              rw [OV2.out, List.length_append]; exact ho2
            have hc5 : w5.cell? ⟨b, off + k, none⟩ = some (.int .i64 x) := by
              have := (hb2.cell (p := ⟨b, off + k, none⟩) hblt).trans (HC.out k hkn)
              rw [← HX.out] at this
              exact this
            have O3 := Lib.hid ho3
            have B3 := Lib.hid hb2
            have TO5 := Lib.hid (T.out.below hb2)
            have CI := Lib.hid (fun q : Nat => show Calls Try.prog 22 #[.pointer (some ⟨t, 0, none⟩), .int .i64 (k : Int), .int .i64 now] (w5.drewN q) fun e w' => e = .returned (.bool false) ∧ w' = w5.drewN q from (is_any (TO5.out.below (below_drewN (Below.refl _ _) q)) (k : Int) now hkw).mono fun _ _ h => ⟨h.1.trans (by rw [IS2.out]), h.2.symm⟩)
            clear ho2 ho3 hg2 hn2 hk2 hb2 O BE
            go_wp2_with fail
            go_quiet ((go_at_call 22; exact Calls.quiet_of_same (CI.out _)))
            go_wp2_with fail
            go_roundw
            case rel => exact ⟨k + 1, by omega, by go_num, O3.out, below_drewN B3.out _⟩
            case measure => simp [intOf]; omega
          · have dy : decide (x ≤ now) = false := by simpa using hy
            have dz : decide (now < x) = true := by simp; omega
            have OV2 := Lib.hid (show ovL L now (k + 1) = ovL L now k by rw [OV.out, if_neg (by omega)])
            have IS2 := Lib.hid (show isB L (k : Int) now = true by rw [IS.out, dx, dz]; rfl)
            have CI := Lib.hid (fun q : Nat => show Calls Try.prog 22 #[.pointer (some ⟨t, 0, none⟩), .int .i64 (k : Int), .int .i64 now] (wo.drewN q) fun e w' => e = .returned (.bool true) ∧ w' = wo.drewN q from (is_any (TO.out.below (below_drewN (Below.refl _ _) q)) (k : Int) now hkw).mono fun _ _ h => ⟨h.1.trans (by rw [IS2.out]), h.2.symm⟩)
            clear OV IS
            go_wp2_with fail
            go_quiet ((go_at_call 22; exact Calls.quiet_of_same (CI.out _)))
            go_wp2_with fail
            go_roundw
            case rel => exact ⟨k + 1, by omega, by go_num, by rw [OV2.out]; exact O.out, below_drewN BE.out _⟩
            case measure => simp [intOf]; omega
        · have dx : decide (0 < x) = false := by simpa using hx
          have OV2 := Lib.hid (show ovL L now (k + 1) = ovL L now k by rw [OV.out, if_neg (by omega)])
          have IS2 := Lib.hid (show isB L (k : Int) now = false by rw [IS.out, dx]; rfl)
          have CI := Lib.hid (fun q : Nat => show Calls Try.prog 22 #[.pointer (some ⟨t, 0, none⟩), .int .i64 (k : Int), .int .i64 now] (wo.drewN q) fun e w' => e = .returned (.bool false) ∧ w' = wo.drewN q from (is_any (TO.out.below (below_drewN (Below.refl _ _) q)) (k : Int) now hkw).mono fun _ _ h => ⟨h.1.trans (by rw [IS2.out]), h.2.symm⟩)
          clear OV IS
          go_wp2_with fail
          go_quiet ((go_at_call 22; exact Calls.quiet_of_same (CI.out _)))
          go_wp2_with fail
          go_roundw
          case rel => exact ⟨k + 1, by omega, by go_num, by rw [OV2.out]; exact O.out, below_drewN BE.out _⟩
          case measure => simp [intOf]; omega
      · have hk' : k = n := by omega
        subst hk'
        have hs := hbe.size
        obtain ⟨av, cv, rfl, AV, FV⟩ := own_ir hown (ovL_wf _ _ _ (by unfold maxLen; omega))
        have B := Lib.hid (B4.out.trans (hbe.mono hs4))
        have TO := Lib.hid (T.out.below hbe)
        have AVh := Lib.hid AV
        have hlk := ovL_len L now k
        clear hown hbe AV
        go_wp2_with fail
        refine (lapse_any TO.out now (by rw [LN.out]; exact hn)).mono ?_
        rintro e w6 ⟨a6, c6, rfl, A6, g6, T6, f6⟩
        rw [LN.out] at A6 T6 ⊢
        have mlo := TO.out.lt.2
        have AV6 := AVh.out.row.fr f6 (fun b off e _ => by have := FV b off e; omega)
        have B6 := Lib.hid (B.out.trans (f6.below hm3 B.out.size))
        have T6h := Lib.hid T6
        have A6h := Lib.hid A6
        have AV6h := Lib.hid AV6
        have f6s := f6.size
        clear T6 A6 AV6 AVh TO f6
        go_wp2_with fail
        refine (lapse_any T6h.out now (by rw [LN.out]; exact hn)).mono ?_
        rintro e w7 ⟨a7, c7, rfl, A7, g7, T7, f7⟩
        rw [LN.out, ov_again]
        have RG := Lib.hid (A6h.out.row.fr f7 (fun b off e _ => by have := g6 b off e; omega))
        have RW := Lib.hid (AV6h.out.fr f7 (fun b off e _ => by have := FV b off e; omega))
        have B7 := Lib.hid (B6.out.trans (f7.below hm3 B6.out.size))
        clear A7 T7 f7 g7 g6 FV
        go_wp2_with fail
        refine (sameInts_any _ _ _ c6 _ cv _ _ w7 RG.out RW.out).mono ?_
        rintro e w8 ⟨rfl, b8⟩
        rw [decide_eq_true rfl]
        go_wp2_with fail
        go_ret
        exact ⟨rfl, B7.out.trans (b8.mono B7.out.size)⟩
end Go.Proofs.Ytfloceoopjokcaa
