/- The document's disk: what is read. -/
import Derived.Test.YtpjddinbbglgmaaDa
namespace Go.Proofs.Ytpjddinbbglgmaa
set_option linter.unusedVariables false
set_option linter.unusedSimpArgs false
open Go.ChangeShapes Go.WideShapes Go.ChangeAt Go.RowKit

theorem make_zr (n : Nat) : (madeCells (Value.int .u8 0).cells (n * 1)).toList = bv (List.replicate n 0) := by
  simp [madeCells, Value.cells, bv, Nat.mod_one, List.map_const']
theorem make_z (n : Nat) (hn : n ≤ 100000) (w : World) : (Instr.makeSlice 29 (.int .i64 (n : Int)) (.int .i64 (n : Int))).run Try.prog w = .ok (.slice (some ⟨w.heap.size, 0, none⟩) n n) (w.alloc (.cells (bv (List.replicate n 0)).toArray 5 (0, 0))) := by
  obtain ⟨ti, hti, hz0, hz1, hz2⟩ := info_parts info5
  have hr := run_make (P := Try.prog) w 29 5 ti (.int .u8 0) Try.underlying29 hti hz0 .i64 .i64 (n : Int) (n : Int) (by omega) (Int.le_refl _) (by rw [hz2]; omega) (by omega)
  rw [hz1] at hr
  have hm : madeCells (Value.int .u8 0).cells ((n : Int).toNat * 1) = (bv (List.replicate n 0)).toArray := by
    rw [← make_zr]; simp
  rw [hm] at hr
  simpa using hr
theorem zeros_any (n : Nat) (hn : n ≤ 100000) (w : World) : Calls Try.prog 27 #[.int .i64 (n : Int)] w fun e w' => e = .returned (.string (strN (List.replicate n 0))) ∧ Below w.heap.size w w' := by
  have hmk := make_z n hn w
  have hcv : (convert 29 9 (.slice (some ⟨w.heap.size, 0, none⟩) n n)).run Try.prog (w.alloc (.cells (bv (List.replicate n 0)).toArray 5 (0, 0))) = .ok (.string (strN (List.replicate n 0))) (w.alloc (.cells (bv (List.replicate n 0)).toArray 5 (0, 0))) :=
    conv_bys (bys_new (heap_alloc_new w _) (by simp) (by intro x hx; rw [List.mem_replicate] at hx; omega))
  have HB : Hid (Below w.heap.size w (w.alloc (.cells (bv (List.replicate n 0)).toArray 5 (0, 0)))) := Lib.hid ((Below.refl _ _).alloc (Nat.le_refl _) _)
  go_enter Try.func27, Try.ntmps27
  go_wp2_with fail
  go_ret
  exact ⟨rfl, HB.out⟩

/-- A string's bytes in a block of their own. -/
theorem conv_str (w : World) (f : List Nat) (hf : ∀ b ∈ f, b < 256) : ∃ cap wn, (convert 9 29 (.string (strN f))).run Try.prog w = .ok (.slice (some ⟨w.heap.size, 0, none⟩) f.length cap) wn ∧ Bys wn (some ⟨w.heap.size, 0, none⟩) f.length f ∧ Below w.heap.size w wn := by
  have hr := Lib.run_convert_string_bytes (P := Try.prog) w 9 29 5 (strN f) Try.underlying9 Try.underlying29 Try.underlying5
  rw [strN_size] at hr
  refine ⟨_, _, hr, ⟨rfl, hf, ?_⟩, ?_⟩
  · refine .inr ⟨w.heap.size, 0, rfl, by rw [Lib.bytesWorld_size]; omega, fun i hi => ?_⟩
    rw [Nat.zero_add, Lib.bytesWorld_cell w 5 (strN f) i (by rw [strN_size]; exact hi)]
    have : (strN f).data.toList.getD i 0 = UInt8.ofNat (f.getD i 0) := by
      simp [strN, strOfNums, List.getD, List.getElem?_map, List.getElem?_eq_getElem hi]
    rw [this]
    have hb : f.getD i 0 < 256 := by
      have hm : f.getD i 0 ∈ f := by
        simp [List.getD, List.getElem?_eq_getElem hi]
      exact hf _ hm
    show some (Value.int .u8 ((UInt8.ofNat (f.getD i 0)).toNat : Int)) = _
    rw [UInt8.toNat_ofNat_of_lt' (by simpa using hb)]
  · refine ⟨?_, ?_, ?_, by rw [Lib.bytesWorld_size]; omega, fun k hk => Lib.bytesWorld_at_old w 5 (strN f) k hk⟩
    all_goals rfl

theorem rread_down {B : Nat} {w : World} {p g c m wr : Nat} {ct : Option (Nat × Nat)} {L : List Nat} (i : Int) (h : Rk B w p g c m ct true wr L) :
    Calls Try.prog 13 #[.pointer (some ⟨p, 0, none⟩), .int .i64 i] w fun e w' => e = .returned (.tuple #[.slice none 0 0, .int .i64 101]) ∧ w = w' := by
  obtain ⟨b, t, wa, me, hpb, h2, h3⟩ := h.pb
  have c1 := (r8 hpb).c1
  clear h hpb h3 h2
  go_enter Try.func13, Try.ntmps13
  go_wp2_with fail
  go_ret2
  exact ⟨rfl, rfl⟩
theorem rread_arg {B : Nat} {w : World} {p g c m wr : Nat} {ct : Option (Nat × Nat)} {L : List Nat} (i : Int) (h : Rk B w p g c m ct false wr L) (hi : hasB m i = false) :
    Calls Try.prog 13 #[.pointer (some ⟨p, 0, none⟩), .int .i64 i] w fun e w' => e = .returned (.tuple #[.slice none 0 0, .int .i64 1]) ∧ w = w' := by
  obtain ⟨b, t, wa, me, hpb, h2, h3⟩ := h.pb
  have c1 := (r8 hpb).c1
  have c0 := (r8 hpb).c0
  clear h hpb h3 h2
  by_cases h0 : i < 0
  · have d1 : decide (i < 0) = true := by simpa using h0
    clear hi
    go_enter Try.func13, Try.ntmps13
    go_wp2_with fail
    go_ret2
    exact ⟨rfl, rfl⟩
  · have d1 : decide (i < 0) = false := by simpa using h0
    have d2 : decide ((m : Int) ≤ i) = true := by
      simp [hasB] at hi
      have := hi (by omega)
      simp; omega
    clear hi
    go_enter Try.func13, Try.ntmps13
    go_wp2_with fail
    go_ret2
    exact ⟨rfl, rfl⟩
theorem sec_by {L : List Nat} (h : ∀ b ∈ L, b < 256) (i : Nat) : ∀ b ∈ sec L i, b < 256 := fun b hb => h b (List.mem_of_mem_drop (List.mem_of_mem_take hb))
def RReadP (w : World) (L : List Nat) (i : Nat) (e : Ending) (w' : World) : Prop :=
  ∃ a cap, e = .returned (.tuple #[.slice a 64 cap, .int .i64 0]) ∧ Bys w' a 64 (sec L i) ∧ Below w.heap.size w w'
set_option maxRecDepth 100000 in
theorem rread_ok {B : Nat} {w : World} {p g c m wr : Nat} {ct : Option (Nat × Nat)} {L : List Nat} (i : Nat) (h : Rk B w p g c m ct false wr L) (hi : i < m) :
    Calls Try.prog 13 #[.pointer (some ⟨p, 0, none⟩), .int .i64 (i : Int)] w (RReadP w L i) := by
  obtain ⟨b, t, wa, me, hpb, h2, h3⟩ := h.pb
  obtain ⟨cur, hgb, h4⟩ := h.gb
  obtain ⟨cap, wn, hcv, hby, hbl⟩ := conv_str w (sec L i) (sec_by h.by' i)
  rw [sec_len h.len hi] at hcv hby
  have FIN : Hid (RReadP w L i (.returned (.tuple #[.slice (some ⟨w.heap.size, 0, none⟩) 64 cap, .int .i64 0])) wn) := Lib.hid ⟨_, _, rfl, hby, hbl⟩
  have q1 := (r8 hpb).c1
  have q0 := (r8 hpb).c0
  have qg : w.cell? ⟨g, i, none⟩ = some (.string (strN (sec L i))) := by simp [World.cell?, hgb, h4 i hi]
  have d1 : decide ((i : Int) < 0) = false := by simp
  have d2 : decide ((m : Int) ≤ (i : Int)) = false := by simp; omega
  have i1 : (i : Int) < (m : Int) := by omega
  clear h hpb h2 h3 hgb h4 hby hbl
  generalize sec L i = f at *
  go_enter Try.func13, Try.ntmps13
  go_wp2_with fail
  go_ret2
  exact FIN.out
end Go.Proofs.Ytpjddinbbglgmaa
