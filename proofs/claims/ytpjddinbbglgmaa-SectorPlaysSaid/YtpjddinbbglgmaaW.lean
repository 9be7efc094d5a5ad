/- What is written to a disk. -/
import Derived.Test.YtpjddinbbglgmaaC
import Derived.StillTailTactics
namespace Go.Proofs.Ytpjddinbbglgmaa
set_option linter.unusedVariables false
open Go.ChangeShapes Go.WideShapes Go.ChangeAt Go.RowKit

/-- Bytes that came in, or that the call owns. -/
structure Bys (W : World) (a : Option Addr) (len : Nat) (f : List Nat) : Prop where
  ln : f.length = len
  by' : ∀ b ∈ f, b < 256
  at' : len = 0 ∨ ∃ b off, a = some ⟨b, off, none⟩ ∧ b < W.heap.size ∧ ∀ i, i < len → W.cell? ⟨b, off + i, none⟩ = some (.int .u8 ((f.getD i 0 : Nat) : Int))

theorem Bys.below {W W' : World} {a : Option Addr} {len : Nat} {f : List Nat} (h : Bys W a len f) (hb : Below W.heap.size W W') : Bys W' a len f := by
  refine ⟨h.ln, h.by', ?_⟩
  rcases h.at' with z | ⟨b, off, e, hlt, hc⟩
  · exact .inl z
  · exact .inr ⟨b, off, e, Nat.lt_of_lt_of_le hlt hb.size, fun i hi => (hb.cell (p := ⟨b, off + i, none⟩) hlt).trans (hc i hi)⟩

def whole (f : List Nat) : List Nat := f ++ List.replicate (64 - f.length) 0
theorem whole_len {f : List Nat} (h : f.length ≤ 64) : (whole f).length = 64 := by simp [whole]; omega

theorem write_down {B : Nat} {w : World} {d s m wr : Nat} {pc : Option Nat} {ct : Option (Nat × Nat)} {L : List Nat} (i : Int) (a : Option Addr) (len cap : Nat) (h : Dk B w d s pc m ct true wr L) :
    Calls Try.prog 18 #[.pointer (some ⟨d, 0, none⟩), .int .i64 i, .slice a len cap] w fun e w' => e = .returned (.int .i64 101) ∧ w = w' := by
  have c2 := h.cells.2.2.1
  clear h
  go_enter Try.func18, Try.ntmps18
  go_wp2_with fail
  go_ret
  exact ⟨rfl, rfl⟩

theorem write_arg {B : Nat} {w : World} {d s m wr : Nat} {pc : Option Nat} {ct : Option (Nat × Nat)} {L : List Nat} (i : Int) (a : Option Addr) (len cap : Nat) (hl : len ≤ maxLen) (h : Dk B w d s pc m ct false wr L) (hi : hasB m i = false ∨ 64 < len) :
    Calls Try.prog 18 #[.pointer (some ⟨d, 0, none⟩), .int .i64 i, .slice a len cap] w fun e w' => e = .returned (.int .i64 1) ∧ w = w' := by
  unfold maxLen at hl
  have c2 := h.cells.2.2.1
  have H := Lib.hid h
  clear h
  generalize hh : hasB m i = hb at hi
  have HH := Lib.hid hh
  clear hh
  cases hb
  · go_enter Try.func18, Try.ntmps18
    go_wp2_with fail
    refine (has_any i H.out).mono ?_
    rintro e w1 ⟨rfl, rfl⟩
    rw [HH.out]
    go_wp2_with fail
    go_ret
    exact ⟨rfl, rfl⟩
  · have h64 : 64 < len := by rcases hi with e | e; · cases e
                              · exact e
    have d1 : decide (64 < (len : Int)) = true := decide_eq_true (by omega)
    go_enter Try.func18, Try.ntmps18
    go_wp2_with fail
    refine (has_any i H.out).mono ?_
    rintro e w1 ⟨rfl, rfl⟩
    rw [HH.out]
    go_wp2_with fail
    go_ret
    exact ⟨rfl, rfl⟩

/-- The array of bytes that are to stand there, behind the copy. -/
theorem splice_gen (n : Nat) (f : List Nat) (h : f.length ≤ n) : splice (bv (List.replicate n 0)) 0 (bv f) = bv (f ++ List.replicate (n - f.length) 0) := by
  simp only [splice, List.take_zero, List.nil_append, Nat.zero_add, bv, List.map_append, List.map_replicate, List.length_map, List.drop_replicate]
theorem splice_whole {f : List Nat} (h : f.length ≤ 64) : splice (bv (List.replicate 64 0)) 0 (bv f) = bv (whole f) := splice_gen 64 f h

theorem run_store53 (w : World) (s o : Nat) (L cs : List Value) (hs : w.heap[s]? = some (.cells L.toArray 53 (0, 0))) (hl : cs.length = 64) (hfit : o + 64 ≤ L.length) (h1 : ∀ v ∈ cs, v.oneCell' = true) :
    (storeVar 53 ⟨s, o, none⟩ (.agg cs.toArray)).run Try.prog w = .ok () (w.setRow s (splice L o cs).toArray) := by
  have hst := run_storeCells_at Try.prog s o 53 cs 0 L.toArray w hs (by rw [hl]; simpa using hfit) h1
  obtain ⟨ti, hti, hz0, hz1, hz2⟩ := info_parts info53
  simp [storeVar, sizeOf, typeInfo, hti, hz1, Value.cells, hl, hst, splice]

theorem wpList_store53 {ops : Array Oper} {rest : List Oper} {o : Oper} {a : Act} {w : World} {Q : Exit → Act → World → Prop} (hgd : o.guard = none) (x y : Operand) (ho : o.op = .store 53 x y)
    (s off : Nat) (hx : a.eval x = .pointer (some ⟨s, off, none⟩)) (L cs : List Value) (hy : a.eval y = .agg cs.toArray) (hs : w.heap[s]? = some (.cells L.toArray 53 (0, 0))) (hl : cs.length = 64) (hfit : off + 64 ≤ L.length) (h1 : ∀ v ∈ cs, v.oneCell' = true)
    (h : wpList Try.prog ops Q rest (a.put o.dst undef) (w.setRow s (splice L off cs).toArray)) : wpList Try.prog ops Q (o :: rest) a w := by
  refine wpList_plain hgd fun K hK => ?_
  unfold Oper.wp execOp
  simp only [ho, hx, hy, Instr.storeAt, Instr.sureAddr, Sem.run_bind, Sem.run_pure, Result.andThen_ok, run_store53 w s off L cs hs hl hfit h1]
  exact hK _ _ h

theorem still_load53 {ops : Array Oper} {o : Oper} {a : Act} {w : World} {K : Act → Prop} (hgd : o.guard = none) (x : Operand) (ho : o.op = .load 53 x)
    (b off : Nat) (hx : a.eval x = .pointer (some ⟨b, off, none⟩)) (cs : List Value) (hc : w.rangeAt b off cs) (hl : cs.length = 64)
    (h : K (a.put o.dst (.agg cs.toArray))) : if Region.wanted o (yielded ops a.tmps) then o.still Try.prog a w K else K (a.put o.dst undef) := by
  have hw : Region.wanted o (yielded ops a.tmps) = true := by simp [Region.wanted, hgd]
  rw [if_pos hw]
  obtain ⟨ti, hti, hz0, hz1, hz2⟩ := info_parts info53
  unfold Oper.still execOp
  simp only [ho, hx, Instr.loadAt, Instr.sureAddr, Sem.run_bind, Sem.run_pure, Result.andThen_ok, run_loadVar_mid w b off 53 cs _ hc Try.underlying53 rfl (by rw [hti]; simp [hz1, hl])]
  exact ⟨rfl, h⟩

theorem splice_bv (L F : List Nat) (o : Nat) : splice (bv L) o (bv F) = bv (splice L o F) := by
  simp [splice, bv, List.map_take, List.map_drop]
theorem splice_by {L F : List Nat} {o : Nat} (hL : ∀ b ∈ L, b < 256) (hF : ∀ b ∈ F, b < 256) : ∀ b ∈ splice L o F, b < 256 := by
  intro b hb
  simp only [splice, List.mem_append] at hb
  rcases hb with h | h | h
  · exact hL b (List.mem_of_mem_take h)
  · exact hF b h
  · exact hL b (List.mem_of_mem_drop h)

/-- Bytes laid over a disk's sectors. -/
theorem Dk.wrote {B : Nat} {w : World} {d s m wr : Nat} {pc : Option Nat} {ct : Option (Nat × Nat)} {dn : Bool} {L : List Nat} (h : Dk B w d s pc m ct dn wr L) (F : List Nat) (o : Nat) (ho : o + F.length ≤ L.length) (hF : ∀ b ∈ F, b < 256) :
    Dk B (w.setRow s (splice (bv L) o (bv F)).toArray) d s pc m ct dn wr (splice L o F) ∧ Fr d s pc w (w.setRow s (splice (bv L) o (bv F)).toArray) := by
  have hoth : ∀ k, k ≠ s → (w.setRow s (splice (bv L) o (bv F)).toArray).heap[k]? = w.heap[k]? := fun k hk => setRow_other w s k _ hk
  refine ⟨⟨h.hd, h.hs, h.hc, h.ne, (hoth d h.ne).trans h.db, ?_, ?_, ?_, h.m1, h.m2, splice_by h.by' hF⟩, ⟨rfl, rfl, rfl, by simp, fun k _ _ hk _ => hoth k hk⟩⟩
  · rw [setRow_heap w s _ _ _ _ h.sb, splice_bv]
  · rcases h.cb with hn | ⟨c, x, e1, e2, e3, e4⟩
    · exact .inl hn
    · exact .inr ⟨c, x, e1, e2, (hoth c (h.hc c e1).2.2).trans e3, e4⟩
  · rw [length_splice _ _ _ ho]; exact h.len

/-- One more is written. -/
theorem Dk.setW {B : Nat} {w : World} {d s m wr : Nat} {pc : Option Nat} {ct : Option (Nat × Nat)} {dn : Bool} {L : List Nat} (h : Dk B w d s pc m ct dn wr L) (n : Nat) :
    Dk B (w.setCell ⟨d, 3, none⟩ (.int .i64 (n : Nat))) d s pc m ct dn n L ∧ Fr d s pc w (w.setCell ⟨d, 3, none⟩ (.int .i64 (n : Nat))) := by
  refine ⟨⟨h.hd, h.hs, h.hc, h.ne, ?_, (heap_setCell_other h.ne.symm).trans h.sb, ?_, h.len, h.m1, h.m2, h.by'⟩, (Fr.refl ..).setCell ..⟩
  · rw [heap_setCell_same h.db]; simp
  · rcases h.cb with hn | ⟨c, x, e1, e2, e3, e4⟩
    · exact .inl hn
    · exact .inr ⟨c, x, e1, e2, (heap_setCell_other (h.hc c e1).2.1).trans e3, e4⟩
theorem Fr.setC {d s c : Nat} {a b : World} (h : Fr d s (some c) a b) (k : Nat) (v : Value) : Fr d s (some c) a (b.setCell ⟨c, k, none⟩ v) :=
  ⟨h.os, h.tape, h.output, by simpa using h.size, fun q hq h1 h2 h3 => (heap_setCell_other (fun e => h3 (by rw [e]))).trans (h.block q hq h1 h2 h3)⟩
theorem Dk.setA {B : Nat} {w : World} {d s m wr c x1 x2 : Nat} {dn : Bool} {L : List Nat} (h : Dk B w d s (some c) m (some (x1, x2)) dn wr L) (n : Nat) :
    Dk B (w.setCell ⟨c, 0, none⟩ (.int .i64 (n : Nat))) d s (some c) m (some (n, x2)) dn wr L ∧ Fr d s (some c) w (w.setCell ⟨c, 0, none⟩ (.int .i64 (n : Nat))) := by
  obtain ⟨_, hc1, hc2⟩ := h.hc c rfl
  refine ⟨⟨h.hd, h.hs, h.hc, h.ne, (heap_setCell_other hc1.symm).trans h.db, (heap_setCell_other hc2.symm).trans h.sb, ?_, h.len, h.m1, h.m2, h.by'⟩, (Fr.refl ..).setC ..⟩
  rcases h.cb with ⟨hn, _⟩ | ⟨c', x, e1, e2, e3, e4⟩
  · cases hn
  · cases e1; cases e2
    refine .inr ⟨c, (n, x2), rfl, rfl, ?_, e4⟩
    rw [heap_setCell_same e3]; simp
theorem Dk.cutc {B : Nat} {w : World} {d s m wr c x1 x2 : Nat} {dn : Bool} {L : List Nat} (h : Dk B w d s (some c) m (some (x1, x2)) dn wr L) :
    w.cell? ⟨c, 0, none⟩ = some (.int .i64 (x1 : Nat)) ∧ w.cell? ⟨c, 1, none⟩ = some (.int .i64 (x2 : Nat)) ∧ x2 ≤ 64 ∧ ∀ k, w.frozen? ⟨c, k, none⟩ = false := by
  rcases h.cb with ⟨hn, _⟩ | ⟨c', x, e1, e2, e3, e4⟩
  · cases hn
  · cases e1; cases e2
    exact ⟨by simp [World.cell?, e3], by simp [World.cell?, e3], e4, fun k => by simp [World.frozen?, e3]⟩

def WriteP (B : Nat) (w : World) (d s m wr i : Nat) (pc : Option Nat) (ct : Option (Nat × Nat)) (L f : List Nat) (e : Ending) (w' : World) : Prop :=
  e = .returned (.int .i64 0) ∧ Dk B w' d s pc m ct false (wr + 1) (splice L (i * 64) (whole f)) ∧ Fr d s pc w w'
def TornP (B : Nat) (w : World) (d s m wr i n : Nat) (pc : Option Nat) (L f : List Nat) (e : Ending) (w' : World) : Prop :=
  e = .returned (.int .i64 101) ∧ Dk B w' d s none m none true wr (splice L (i * 64) ((whole f).take n)) ∧ Fr d s pc w w'

theorem whole_by {f : List Nat} (h : ∀ b ∈ f, b < 256) : ∀ b ∈ whole f, b < 256 := by
  intro b hb
  unfold whole at hb
  rcases List.mem_append.1 hb with h1 | h1
  · exact h b h1
  · rw [List.mem_replicate] at h1; omega

set_option maxRecDepth 100000 in
set_option maxHeartbeats 2000000 in
theorem write_none {B : Nat} {w : World} {d s m wr : Nat} {L : List Nat} (i : Nat) (a : Option Addr) (len cap : Nat) (f : List Nat) (h : Dk B w d s none m none false wr L) (hi : i < m) (hf : Bys w a len f) (hl : len ≤ 64) (hw : wr ≤ 1000000000) :
    Calls Try.prog 18 #[.pointer (some ⟨d, 0, none⟩), .int .i64 i, .slice a len cap] w (WriteP B w d s m wr i none none L f) := by
  have hm2 := h.m2
  have hlen := h.len
  have hI : hasB m i = true := by simp [hasB, hi]
  have H := Lib.hid h
  have HI := Lib.hid hI
  have HF := Lib.hid hf
  have hds := blk_lt h.db
  have hss := blk_lt h.sb
  have c2 := h.cells.2.2.1
  have d1 : decide (64 < (len : Int)) = false := decide_eq_false (by omega)
  have hfit : i * 64 + 64 ≤ L.length := by
    rw [hlen]
    have : (i + 1) * 64 ≤ m * 64 := Nat.mul_le_mul_right _ hi
    omega
  have HFIT := Lib.hid hfit
  clear h hI hf hfit
  go_enter Try.func18, Try.ntmps18
  go_wp2_with fail
  refine (has_any i H.out).mono ?_
  rintro e w1 ⟨rfl, rfl⟩
  rw [HI.out]
  go_wp2_with (with_reducible refine wpList_copy_splice rfl (.tmp 21) (.tmp 22) 29 29 rfl 5 Try.underlying29 (by kernel_rfl) (some ⟨w.heap.size, 0, none⟩) a 64 64 len cap rfl rfl w.heap.size 0 (bv (List.replicate 64 0)) 53 ?k0 (bv f) ?k1 ?k2 ?k3 (bv_one _) w.heap.size w ?k4 (Nat.le_refl _) ?_)
  case k0 => exact heap_alloc_new w _
  case k1 => rw [bv_len, HF.out.ln]; exact (Nat.min_eq_left hl).symm
  case k2 =>
    intro h0
    rw [bv_len, HF.out.ln] at h0
    rcases HF.out.at' with z | ⟨b, off, e, hlt, hc⟩
    · omega
    · have hcc : ∀ j v, (bv f)[j]? = some v → (w.alloc (.cells (bv (List.replicate 64 0)).toArray 53 (0, 0))).cell? ((Addr.mk b off none).add j) = some v := by
        intro j v hv
        have hj : j < len := by
          have := (List.getElem?_eq_some_iff.1 hv).1
          rwa [bv_len, HF.out.ln] at this
        rw [bv_get f j (by rw [HF.out.ln]; exact hj)] at hv
        rw [addr_add_none, ← hv, ← hc j hj]
        exact (Below.alloc (Below.refl w.heap.size w) (Nat.le_refl _) _).cell (p := ⟨b, off + j, none⟩) hlt
      first
        | exact ⟨_, e, hcc⟩
        | exact ⟨rfl, _, e, hcc⟩
  case k3 => rw [bv_len, bv_len, HF.out.ln, List.length_replicate]; omega
  case k4 => exact (Below.refl _ _).alloc (Nat.le_refl _) _
  intro w3 hg3 hb3
  have hg4 : w3.heap[w.heap.size]? = some (.cells (bv (whole f)).toArray 53 (0, 0)) := by
    rw [← splice_whole (by rw [HF.out.ln]; exact hl)]; exact hg3.out
  clear hg3
  have h3 := H.out.below hb3
  have HG4 := Lib.hid hg4
  have HB3 := Lib.hid hb3
  have H3 := Lib.hid h3
  have k1 : w3.cell? ⟨d, 1, none⟩ = some (.pointer none) := h3.cells.2.1
  have k0 := h3.cells.1
  have hwf : (whole f).length = 64 := whole_len (by rw [HF.out.ln]; exact hl)
  have HWF := Lib.hid hwf
  have hwl : (bv (whole f)).length = 64 := by rw [bv_len, hwf]
  have HWL := Lib.hid hwl
  have HWB := Lib.hid (whole_by HF.out.by')
  have hsz3 := hb3.size
  have hrng : ∀ W : World, W.heap = w3.heap → W.rangeAt w.heap.size 0 (bv (whole f)) := by
    intro W hW j v hv
    have hb : W.heap[w.heap.size]? = some (.cells (bv (whole f)).toArray 53 (0, 0)) := by rw [hW]; exact HG4.out
    rw [Nat.zero_add]
    simp only [World.cell?, hb]
    simpa using hv
  have HRNG := Lib.hid hrng
  clear hg4 hb3 c2 hwl hwf h3 hrng
  go_upto_region 11 with fail
  go_cut [] (fun wx => ∃ w4, w4 = w3.drew ∧ wx = w4.setRow s (splice (bv L) (i * 64) (bv (whole f))).toArray)
  case first =>
    refine wp_region_still_tail 7 (by kernel_rfl) (by kernel_rfl) ?_
    simp only [List.take_succ_cons, List.take_zero, List.drop_succ_cons, List.drop_zero]
    iterate 5 still_step
    refine wpStill_step (fun K hK => ?_)
    refine still_load53 rfl (.tmp 7) rfl w.heap.size 0 rfl (bv (whole f)) (HRNG.out _ rfl) HWL.out ?_
    refine hK _ ?_
    clear hK K
    still_step
    refine wpStill_nil ?_
    refine wpList_store53 rfl (.tmp 67) (.tmp 66) rfl s (i * 64) rfl (bv L) (bv (whole f)) rfl H3.out.sb HWL.out (by rw [bv_len]; exact HFIT.out) (bv_one _) ?_
    go_wp2_with fail
    go_meet
    exact ⟨_, rfl, rfl⟩
  case rest =>
    obtain ⟨w4, hw4, hwc⟩ := hcut
    have h4 : Dk B w4 d s none m none false wr L := by rw [hw4]; exact H3.out.below (Below.refl _ _).drew
    have hf4 : Fr d s none w w4 := by rw [hw4]; exact Fr.of_below HB3.out.drew
    have hwr := h4.wrote (whole f) (i * 64) (by rw [HWF.out]; exact HFIT.out) HWB.out
    rw [← hwc] at hwr
    have hwn := hwr.1.setW (wr + 1)
    have e3 := hwr.1.cells.2.2.2
    have z3 := (hwr.1.free 3).1
    have HW := Lib.hid (show Dk B _ d s none m none false (wr + 1) (splice L (i * 64) (whole f)) ∧ Fr d s none w _ from ⟨hwn.1, (hf4.trans hwr.2).trans hwn.2⟩)
    clear hwc h4 hf4 hwr hwn hw4 k0 k1 H3 HRNG
    obtain ⟨w5, hw5⟩ : ∃ w5, w5 = wc.setCell ⟨d, 3, none⟩ (.int .i64 ((wr + 1 : Nat) : Int)) := ⟨_, rfl⟩
    rw [← hw5] at HW
    have h51 : w5.cell? ⟨d, 1, none⟩ = some (.pointer none) := HW.out.1.cells.2.1
    have HW5 := Lib.hid hw5
    go_upto_region 13 with fail
    rw [show ((wr : Int) + 1) = ((wr + 1 : Nat) : Int) by omega, ← HW5.out]
    clear hw5 e3 z3
    go_wp2_with fail
    go_ret
    exact ⟨rfl, HW.out⟩

set_option maxRecDepth 100000 in
set_option maxHeartbeats 2000000 in
theorem write_some {B : Nat} {w : World} {d s m wr c x1 x2 : Nat} {L : List Nat} (i : Nat) (a : Option Addr) (len cap : Nat) (f : List Nat) (h : Dk B w d s (some c) m (some (x1, x2)) false wr L) (hi : i < m) (hf : Bys w a len f) (hl : len ≤ 64) (hw : wr ≤ 1000000000) (hx1 : 0 < x1) (hx1b : x1 ≤ 9223372036854775807) :
    Calls Try.prog 18 #[.pointer (some ⟨d, 0, none⟩), .int .i64 i, .slice a len cap] w (WriteP B w d s m wr i (some c) (some (x1 - 1, x2)) L f) := by
  have hm2 := h.m2
  have hlen := h.len
  have hI : hasB m i = true := by simp [hasB, hi]
  have H := Lib.hid h
  have HI := Lib.hid hI
  have HF := Lib.hid hf
  have hds := blk_lt h.db
  have hss := blk_lt h.sb
  have c2 := h.cells.2.2.1
  have d1 : decide (64 < (len : Int)) = false := decide_eq_false (by omega)
  have hfit : i * 64 + 64 ≤ L.length := by
    rw [hlen]
    have : (i + 1) * 64 ≤ m * 64 := Nat.mul_le_mul_right _ hi
    omega
  have HFIT := Lib.hid hfit
  clear h hI hf hfit
  go_enter Try.func18, Try.ntmps18
  go_wp2_with fail
  refine (has_any i H.out).mono ?_
  rintro e w1 ⟨rfl, rfl⟩
  rw [HI.out]
  go_wp2_with (with_reducible refine wpList_copy_splice rfl (.tmp 21) (.tmp 22) 29 29 rfl 5 Try.underlying29 (by kernel_rfl) (some ⟨w.heap.size, 0, none⟩) a 64 64 len cap rfl rfl w.heap.size 0 (bv (List.replicate 64 0)) 53 ?k0 (bv f) ?k1 ?k2 ?k3 (bv_one _) w.heap.size w ?k4 (Nat.le_refl _) ?_)
  case k0 => exact heap_alloc_new w _
  case k1 => rw [bv_len, HF.out.ln]; exact (Nat.min_eq_left hl).symm
  case k2 =>
    intro h0
    rw [bv_len, HF.out.ln] at h0
    rcases HF.out.at' with z | ⟨b, off, e, hlt, hc⟩
    · omega
    · have hcc : ∀ j v, (bv f)[j]? = some v → (w.alloc (.cells (bv (List.replicate 64 0)).toArray 53 (0, 0))).cell? ((Addr.mk b off none).add j) = some v := by
        intro j v hv
        have hj : j < len := by
          have := (List.getElem?_eq_some_iff.1 hv).1
          rwa [bv_len, HF.out.ln] at this
        rw [bv_get f j (by rw [HF.out.ln]; exact hj)] at hv
        rw [addr_add_none, ← hv, ← hc j hj]
        exact (Below.alloc (Below.refl w.heap.size w) (Nat.le_refl _) _).cell (p := ⟨b, off + j, none⟩) hlt
      first
        | exact ⟨_, e, hcc⟩
        | exact ⟨rfl, _, e, hcc⟩
  case k3 => rw [bv_len, bv_len, HF.out.ln, List.length_replicate]; omega
  case k4 => exact (Below.refl _ _).alloc (Nat.le_refl _) _
  intro w3 hg3 hb3
  have hg4 : w3.heap[w.heap.size]? = some (.cells (bv (whole f)).toArray 53 (0, 0)) := by
    rw [← splice_whole (by rw [HF.out.ln]; exact hl)]; exact hg3.out
  clear hg3
  have h3 := H.out.below hb3
  have HG4 := Lib.hid hg4
  have HB3 := Lib.hid hb3
  have H3 := Lib.hid h3
  have k1 : w3.cell? ⟨d, 1, none⟩ = some (.pointer (some ⟨c, 0, none⟩)) := h3.cells.2.1
  have k0 := h3.cells.1
  have hwf : (whole f).length = 64 := whole_len (by rw [HF.out.ln]; exact hl)
  have HWF := Lib.hid hwf
  have hwl : (bv (whole f)).length = 64 := by rw [bv_len, hwf]
  have HWL := Lib.hid hwl
  have HWB := Lib.hid (whole_by HF.out.by')
  have hsz3 := hb3.size
  have hrng : ∀ W : World, W.heap = w3.heap → W.rangeAt w.heap.size 0 (bv (whole f)) := by
    intro W hW j v hv
    have hb : W.heap[w.heap.size]? = some (.cells (bv (whole f)).toArray 53 (0, 0)) := by rw [hW]; exact HG4.out
    rw [Nat.zero_add]
    simp only [World.cell?, hb]
    simpa using hv
  have HRNG := Lib.hid hrng
  have q0 := h3.cutc.1
  have t1 : ((x1 : Int) == 0) = false := by simp; omega
  clear hg4 hb3 c2 hwl hwf h3 hrng
  go_upto_region 11 with fail
  go_cut [] (fun wx => ∃ w4, w4 = w3.drew ∧ wx = w4.setRow s (splice (bv L) (i * 64) (bv (whole f))).toArray)
  case first =>
    refine wp_region_still_tail 7 (by kernel_rfl) (by kernel_rfl) ?_
    simp only [List.take_succ_cons, List.take_zero, List.drop_succ_cons, List.drop_zero]
    iterate 5 still_step
    refine wpStill_step (fun K hK => ?_)
    refine still_load53 rfl (.tmp 7) rfl w.heap.size 0 rfl (bv (whole f)) (HRNG.out _ rfl) HWL.out ?_
    refine hK _ ?_
    clear hK K
    still_step
    refine wpStill_nil ?_
    refine wpList_store53 rfl (.tmp 67) (.tmp 66) rfl s (i * 64) rfl (bv L) (bv (whole f)) rfl H3.out.sb HWL.out (by rw [bv_len]; exact HFIT.out) (bv_one _) ?_
    go_wp2_with fail
    go_meet
    exact ⟨_, rfl, rfl⟩
  case rest =>
    obtain ⟨w4, hw4, hwc⟩ := hcut
    have h4 : Dk B w4 d s (some c) m (some (x1, x2)) false wr L := by rw [hw4]; exact H3.out.below (Below.refl _ _).drew
    have hf4 : Fr d s (some c) w w4 := by rw [hw4]; exact Fr.of_below HB3.out.drew
    have hwr := h4.wrote (whole f) (i * 64) (by rw [HWF.out]; exact HFIT.out) HWB.out
    rw [← hwc] at hwr
    have hwn := hwr.1.setW (wr + 1)
    have e3 := hwr.1.cells.2.2.2
    have z3 := (hwr.1.free 3).1
    have HW := Lib.hid (show Dk B _ d s (some c) m (some (x1, x2)) false (wr + 1) (splice L (i * 64) (whole f)) ∧ Fr d s (some c) w _ from ⟨hwn.1, (hf4.trans hwr.2).trans hwn.2⟩)
    clear q0 hwc h4 hf4 hwr hwn hw4 k0 k1 H3 HRNG
    obtain ⟨w5, hw5⟩ : ∃ w5, w5 = wc.setCell ⟨d, 3, none⟩ (.int .i64 ((wr + 1 : Nat) : Int)) := ⟨_, rfl⟩
    rw [← hw5] at HW
    have h51 : w5.cell? ⟨d, 1, none⟩ = some (.pointer (some ⟨c, 0, none⟩)) := HW.out.1.cells.2.1
    have HW5 := Lib.hid hw5
    have q5 := HW.out.1.cutc.1
    have qz := HW.out.1.cutc.2.2.2 0
    have hA := HW.out.1.setA (x1 - 1)
    have HA := Lib.hid (show Dk B _ d s (some c) m (some (x1 - 1, x2)) false (wr + 1) (splice L (i * 64) (whole f)) ∧ Fr d s (some c) w _ from ⟨hA.1, HW.out.2.trans hA.2⟩)
    clear hA
    go_upto_region 13 with fail
    rw [show ((wr : Int) + 1) = ((wr + 1 : Nat) : Int) by omega, ← HW5.out]
    clear hw5 e3 z3
    go_wp2_with fail
    go_ret
    refine ⟨rfl, ?_⟩
    have := HA.out
    rw [show ((x1 - 1 : Nat) : Int) = (x1 : Int) - 1 by omega] at this
    exact this

set_option maxRecDepth 100000 in
set_option maxHeartbeats 2000000 in
theorem write_torn {B : Nat} {w : World} {d s m wr c n : Nat} {L : List Nat} (i : Nat) (a : Option Addr) (len cap : Nat) (f : List Nat) (h : Dk B w d s (some c) m (some (0, n)) false wr L) (hi : i < m) (hf : Bys w a len f) (hl : len ≤ 64) (hw : wr ≤ 1000000000) :
    Calls Try.prog 18 #[.pointer (some ⟨d, 0, none⟩), .int .i64 i, .slice a len cap] w (TornP B w d s m wr i n (some c) L f) := by
  have hm2 := h.m2
  have hlen := h.len
  have hI : hasB m i = true := by simp [hasB, hi]
  have H := Lib.hid h
  have HI := Lib.hid hI
  have HF := Lib.hid hf
  have hds := blk_lt h.db
  have hss := blk_lt h.sb
  have c2 := h.cells.2.2.1
  have d1 : decide (64 < (len : Int)) = false := decide_eq_false (by omega)
  have hfit : i * 64 + 64 ≤ L.length := by
    rw [hlen]
    have : (i + 1) * 64 ≤ m * 64 := Nat.mul_le_mul_right _ hi
    omega
  have HFIT := Lib.hid hfit
  clear h hI hf hfit
  go_enter Try.func18, Try.ntmps18
  go_wp2_with fail
  refine (has_any i H.out).mono ?_
  rintro e w1 ⟨rfl, rfl⟩
  rw [HI.out]
  go_wp2_with (with_reducible refine wpList_copy_splice rfl (.tmp 21) (.tmp 22) 29 29 rfl 5 Try.underlying29 (by kernel_rfl) (some ⟨w.heap.size, 0, none⟩) a 64 64 len cap rfl rfl w.heap.size 0 (bv (List.replicate 64 0)) 53 ?k0 (bv f) ?k1 ?k2 ?k3 (bv_one _) w.heap.size w ?k4 (Nat.le_refl _) ?_)
  case k0 => exact heap_alloc_new w _
  case k1 => rw [bv_len, HF.out.ln]; exact (Nat.min_eq_left hl).symm
  case k2 =>
    intro h0
    rw [bv_len, HF.out.ln] at h0
    rcases HF.out.at' with z | ⟨b, off, e, hlt, hc⟩
    · omega
    · have hcc : ∀ j v, (bv f)[j]? = some v → (w.alloc (.cells (bv (List.replicate 64 0)).toArray 53 (0, 0))).cell? ((Addr.mk b off none).add j) = some v := by
        intro j v hv
        have hj : j < len := by
          have := (List.getElem?_eq_some_iff.1 hv).1
          rwa [bv_len, HF.out.ln] at this
        rw [bv_get f j (by rw [HF.out.ln]; exact hj)] at hv
        rw [addr_add_none, ← hv, ← hc j hj]
        exact (Below.alloc (Below.refl w.heap.size w) (Nat.le_refl _) _).cell (p := ⟨b, off + j, none⟩) hlt
      first
        | exact ⟨_, e, hcc⟩
        | exact ⟨rfl, _, e, hcc⟩
  case k3 => rw [bv_len, bv_len, HF.out.ln, List.length_replicate]; omega
  case k4 => exact (Below.refl _ _).alloc (Nat.le_refl _) _
  intro w3 hg3 hb3
  have hg4 : w3.heap[w.heap.size]? = some (.cells (bv (whole f)).toArray 53 (0, 0)) := by
    rw [← splice_whole (by rw [HF.out.ln]; exact hl)]; exact hg3.out
  clear hg3
  have h3 := H.out.below hb3
  have HG4 := Lib.hid hg4
  have HB3 := Lib.hid hb3
  have H3 := Lib.hid h3
  have k1 : w3.cell? ⟨d, 1, none⟩ = some (.pointer (some ⟨c, 0, none⟩)) := h3.cells.2.1
  have k0 := h3.cells.1
  have hwf : (whole f).length = 64 := whole_len (by rw [HF.out.ln]; exact hl)
  have HWF := Lib.hid hwf
  have hwl : (bv (whole f)).length = 64 := by rw [bv_len, hwf]
  have HWL := Lib.hid hwl
  have HWB := Lib.hid (whole_by HF.out.by')
  have hsz3 := hb3.size
  have hrng : ∀ W : World, W.heap = w3.heap → W.rangeAt w.heap.size 0 (bv (whole f)) := by
    intro W hW j v hv
    have hb : W.heap[w.heap.size]? = some (.cells (bv (whole f)).toArray 53 (0, 0)) := by rw [hW]; exact HG4.out
    rw [Nat.zero_add]
    simp only [World.cell?, hb]
    simpa using hv
  have HRNG := Lib.hid hrng
  have q0 : w3.cell? ⟨c, 0, none⟩ = some (.int .i64 0) := h3.cutc.1
  have q1 := h3.cutc.2.1
  have hn64 := h3.cutc.2.2.1
  have fz1 := (h3.free 1).1
  have fz2 := (h3.free 2).1
  clear hg4 hb3 c2 hwl hwf h3 hrng
  have hcs : (bv ((whole f).take n)).length = n := by rw [bv_len, List.length_take, HWF.out]; omega
  have HCS := Lib.hid hcs
  have hsrc : ∀ j v, (bv ((whole f).take n))[j]? = some v → w3.drew.cell? ((Addr.mk w.heap.size 0 none).add j) = some v := by
    intro j v hv
    have hj : j < n := by
      have := (List.getElem?_eq_some_iff.1 hv).1
      rwa [HCS.out] at this
    have h0 := HRNG.out w3 rfl j v (by
      rw [← hv]
      unfold bv
      rw [List.getElem?_map, List.getElem?_map, List.getElem?_take_of_lt hj])
    rw [addr_add_none]
    exact h0
  have HSRC := Lib.hid hsrc
  have hi64 : i * 64 + 64 ≤ m * 64 := by rw [← hlen]; exact HFIT.out
  clear hcs hsrc
  go_upto_region 8 with fail
  go_cut [] (fun wx => ∃ w4, w4 = w3.drew ∧ wx = w4.setRow s (splice (bv L) (i * 64) (bv ((whole f).take n))).toArray)
  case first =>
    refine wp_region_still_tail 15 (by kernel_rfl) (by kernel_rfl) ?_
    simp only [List.take_succ_cons, List.take_zero, List.drop_succ_cons, List.drop_zero]
    have hn1 : (n : Int) ≤ 64 := by omega
    have hn2 : (n : Int) ≤ (Try.prog.arrayLen 53 : Int) := by rw [show Try.prog.arrayLen 53 = 64 by kernel_rfl]; omega
    iterate 15 still_step
    refine wpStill_nil ?_
    refine wpList_copy_own rfl (.tmp 52) (.tmp 53) 29 29 rfl 5 Try.underlying29 (by kernel_rfl) s (i * 64) n 64 ⟨w.heap.size, 0, none⟩ 64 64 rfl rfl (bv L).toArray 53 H3.out.sb (bv ((whole f).take n)) (by rw [HCS.out]; exact (Nat.min_eq_right hn64).symm) HSRC.out (by rw [HCS.out, List.size_toArray, bv_len]; have := HFIT.out; omega) (bv_one _) ?_
    go_wp2_with fail
    go_meet
    exact ⟨_, rfl, rfl⟩
  case rest =>
    obtain ⟨w4, hw4, hwc⟩ := hcut
    have h4 : Dk B w4 d s (some c) m (some (0, n)) false wr L := by rw [hw4]; exact H3.out.below (Below.refl _ _).drew
    have hf4 : Fr d s (some c) w w4 := by rw [hw4]; exact Fr.of_below HB3.out.drew
    have hwr := h4.wrote ((whole f).take n) (i * 64) (by rw [List.length_take, HWF.out]; have := HFIT.out; omega) (fun b hb => HWB.out b (List.mem_of_mem_take hb))
    rw [← hwc] at hwr
    have hfin : TornP B w d s m wr i n (some c) L f (.returned (.int .i64 101)) ((wc.setCell ⟨d, 2, none⟩ (.bool true)).setCell ⟨d, 1, none⟩ (.pointer none)) := by
      have hne := hwr.1.ne
      refine ⟨rfl, ⟨hwr.1.hd, hwr.1.hs, (fun c e => by cases e), hne, ?_, ?_, .inl ⟨rfl, rfl⟩, hwr.1.len, hwr.1.m1, hwr.1.m2, hwr.1.by'⟩, (((hf4.trans hwr.2).setCell ..).setCell ..)⟩
      · rw [heap_setCell_same (heap_setCell_same hwr.1.db)]; simp
      · rw [heap_setCell_other hne.symm, heap_setCell_other hne.symm]; exact hwr.1.sb
    have e1 : wc.cell? ⟨d, 1, none⟩ = some (.pointer (some ⟨c, 0, none⟩)) := hwr.1.cells.2.1
    have e2 := hwr.1.cells.2.2.1
    have z1 := (hwr.1.free 1).1
    have z2 := (hwr.1.free 2).1
    have HFIN := Lib.hid hfin
    clear hfin hwc h4 hf4 hwr hw4 k0 k1 H3 HRNG HSRC fz1 fz2 q0 q1
    go_wp2_with fail
    go_ret
    exact HFIN.out

end Go.Proofs.Ytpjddinbbglgmaa
