/- Places: where they lie, and what stands there. -/
import Derived.Test.YtdolgpogjnfpkaaSv1
import Derived.Test.YtdolgpogjnfpkaaSv6
import Derived.Laws.BitsAllLaws
namespace Go.Proofs.Ytdolgpogjnfpkaa
set_option linter.unusedVariables false
set_option linter.unusedSimpArgs false
open Go.ChangeShapes Go.WideShapes Go.ChangeAt Go.RowKit

theorem blk_ltB {w : World} {r : Nat} {o : Obj} (h : w.heap[r]? = some o) : r < w.heap.size := by
  rcases Nat.lt_or_ge r w.heap.size with h' | h'
  · exact h'
  · simp [Array.getElem?_eq_none h'] at h
/-- Only these blocks have changed. -/
structure Fw (l : List Nat) (w w' : World) : Prop where
  os : w'.os = w.os
  tape : w'.tape = w.tape
  output : w'.output = w.output
  size : w.heap.size ≤ w'.heap.size
  block : ∀ k, k < w.heap.size → k ∉ l → w'.heap[k]? = w.heap[k]?
theorem Fw.of_below {l : List Nat} {w w' : World} (h : Below w.heap.size w w') : Fw l w w' := ⟨h.os, h.tape, h.output, h.size, fun k hk _ => h.block k hk⟩
theorem Fw.refl (l : List Nat) (w : World) : Fw l w w := Fw.of_below (Below.refl _ _)
theorem Fw.below {l : List Nat} {B : Nat} {w w' : World} (h : Fw l w w') (hB : ∀ x ∈ l, B ≤ x) (hs : B ≤ w.heap.size) : Below B w w' :=
  ⟨h.os, h.tape, h.output, h.size, fun k hk => h.block k (by omega) (fun q => by have := hB k q; omega)⟩
theorem Fw.trans {l : List Nat} {a b c : World} (h : Fw l a b) (h' : Fw l b c) : Fw l a c :=
  ⟨h'.os.trans h.os, h'.tape.trans h.tape, h'.output.trans h.output, Nat.le_trans h.size h'.size, fun k hk h1 => (h'.block k (Nat.lt_of_lt_of_le hk h.size) h1).trans (h.block k hk h1)⟩
theorem Fw.setRow (w : World) (g : Nat) (cs : Array Value) : Fw [g] w (w.setRow g cs) :=
  ⟨rfl, rfl, rfl, by simp, fun k _ hk => setRow_other w g k _ (by simpa using hk)⟩
theorem Fw.set (w : World) (g k : Nat) (v : Value) : Fw [g] w (w.setCell ⟨g, k, none⟩ v) :=
  ⟨rfl, rfl, rfl, by simp, fun q _ hq => Below.heap_setCell _ _ _ _ (by simpa using hq)⟩
theorem Fw.mono {l l' : List Nat} {w w' : World} (h : Fw l w w') (hl : ∀ x ∈ l, x ∈ l') : Fw l' w w' := ⟨h.os, h.tape, h.output, h.size, fun k hk h1 => h.block k hk (fun q => h1 (hl k q))⟩

/-- A row of words. -/
def slB (s : Nat → Nat) (R : Nat → List Nat) (k : Nat) : Value := .slice (some ⟨s k, 0, none⟩) (R k).length (R k).length
/-- Places. -/
structure Bn (B : Nat) (w : World) (p : Nat) (s : Nat → Nat) (R : Nat → List Nat) : Prop where
  hp : B ≤ p
  blk : w.heap[p]? = some (.cells #[slB s R 0, slB s R 1, slB s R 2, slB s R 3] 64 (0, 0))
  hs : ∀ k, k < 4 → B ≤ s k ∧ s k ≠ p
  ne : ∀ i j, i < 4 → j < 4 → i ≠ j → s i ≠ s j
  row : ∀ k, k < 4 → w.heap[s k]? = some (.cells (wv (R k)).toArray 34 (0, 0))
  len : ∀ k, k < 4 → (R k).length ≤ 256
  wd : ∀ k, k < 4 → ∀ v ∈ R k, v < 65536
/-- The blocks of its rows. -/
def bl (s : Nat → Nat) : List Nat := [s 0, s 1, s 2, s 3]
theorem bl_mem {s : Nat → Nat} {k : Nat} (hk : k < 4) : s k ∈ bl s := by
  have : k = 0 ∨ k = 1 ∨ k = 2 ∨ k = 3 := by omega
  rcases this with rfl | rfl | rfl | rfl <;> simp [bl]
theorem Bn.below {B : Nat} {w w' : World} {p : Nat} {s : Nat → Nat} {R : Nat → List Nat} (h : Bn B w p s R) (b : Below w.heap.size w w') : Bn B w' p s R :=
  ⟨h.hp, (b.block p (blk_ltB h.blk)).trans h.blk, h.hs, h.ne, fun k hk => (b.block _ (blk_ltB (h.row k hk))).trans (h.row k hk), h.len, h.wd⟩
theorem Bn.step {B : Nat} {w w' : World} {p : Nat} {s : Nat → Nat} {R : Nat → List Nat} (h : Bn B w p s R) (f : Fw (bl s) w w') : Below B w w' := by
  refine f.below (fun x hx => ?_) (by have := blk_ltB h.blk; have := h.hp; omega)
  simp only [bl, List.mem_cons, List.not_mem_nil, or_false] at hx
  rcases hx with rfl | rfl | rfl | rfl
  · exact (h.hs 0 (by omega)).1
  · exact (h.hs 1 (by omega)).1
  · exact (h.hs 2 (by omega)).1
  · exact (h.hs 3 (by omega)).1
/-- A row anew. -/
def upR (R : Nat → List Nat) (k : Nat) (L : List Nat) : Nat → List Nat := fun j => if j = k then L else R j
theorem slB_up {s : Nat → Nat} {R : Nat → List Nat} {k : Nat} {L : List Nat} (hl : L.length = (R k).length) (j : Nat) : slB s (upR R k L) j = slB s R j := by
  unfold slB upR
  by_cases h : j = k
  · subst h; rw [if_pos rfl, hl]
  · rw [if_neg h]
theorem Bn.set {B : Nat} {w w' : World} {p : Nat} {s : Nat → Nat} {R : Nat → List Nat} (h : Bn B w p s R) {k : Nat} (hk : k < 4) {L : List Nat} (hl : L.length = (R k).length) (hw : ∀ v ∈ L, v < 65536)
    (f : Fw [s k] w w') (hr : w'.heap[s k]? = some (.cells (wv L).toArray 34 (0, 0))) : Bn B w' p s (upR R k L) := by
  refine ⟨h.hp, ?_, h.hs, h.ne, fun j hj => ?_, fun j hj => ?_, fun j hj => ?_⟩
  · rw [slB_up hl, slB_up hl, slB_up hl, slB_up hl]
    exact (f.block p (blk_ltB h.blk) (by simpa using (h.hs k hk).2.symm)).trans h.blk
  · unfold upR
    by_cases e : j = k
    · subst e; rw [if_pos rfl]; exact hr
    · rw [if_neg e]; exact (f.block _ (blk_ltB (h.row j hj)) (by simpa using h.ne j k hj hk e)).trans (h.row j hj)
  · unfold upR
    by_cases e : j = k
    · subst e; rw [if_pos rfl, hl]; exact h.len j hj
    · rw [if_neg e]; exact h.len j hj
  · unfold upR
    by_cases e : j = k
    · subst e; rw [if_pos rfl]; exact hw
    · rw [if_neg e]; exact h.wd j hj
theorem Bn.cells {B : Nat} {w : World} {p : Nat} {s : Nat → Nat} {R : Nat → List Nat} (h : Bn B w p s R) :
    w.cell? ⟨p, 0, none⟩ = some (slB s R 0) ∧ w.cell? ⟨p, 1, none⟩ = some (slB s R 1) ∧ w.cell? ⟨p, 2, none⟩ = some (slB s R 2) ∧ w.cell? ⟨p, 3, none⟩ = some (slB s R 3) := by
  simp [World.cell?, h.blk]
theorem Bn.cell {B : Nat} {w : World} {p : Nat} {s : Nat → Nat} {R : Nat → List Nat} (h : Bn B w p s R) {k : Nat} (hk : k < 4) : w.cell? ⟨p, k, none⟩ = some (slB s R k) := by
  have : k = 0 ∨ k = 1 ∨ k = 2 ∨ k = 3 := by omega
  obtain ⟨c0, c1, c2, c3⟩ := h.cells
  rcases this with rfl | rfl | rfl | rfl
  · exact c0
  · exact c1
  · exact c2
  · exact c3
theorem Bn.at {B : Nat} {w : World} {p : Nat} {s : Nat → Nat} {R : Nat → List Nat} (h : Bn B w p s R) {k i : Nat} (hk : k < 4) (hi : i < (R k).length) : w.cell? ⟨s k, i, none⟩ = some (.int .u16 (((R k).getD i 0 : Nat) : Int)) ∧ w.frozen? ⟨s k, i, none⟩ = false := by
  constructor
  · simp only [World.cell?, h.row k hk]
    simpa using wv_get (R k) i hi
  · simp [World.frozen?, h.row k hk]

/-- How many places of a kind there are. -/
def szB (R : Nat → List Nat) (k : Int) : Nat := if 0 ≤ k ∧ k < 4 then (R k.toNat).length else 0
theorem size_any {B : Nat} {w : World} {p : Nat} {s : Nat → Nat} {R : Nat → List Nat} (h : Bn B w p s R) (k : Int) :
    Calls Try.prog 27 #[.pointer (some ⟨p, 0, none⟩), .int .i64 k] w fun e w' => e = .returned (.int .i64 (szB R k : Nat)) ∧ w' = w := by
  unfold szB
  by_cases h0 : k < 0
  · have d0 : decide (k < 0) = true := by simpa using h0
    rw [if_neg (by omega)]
    clear h
    go_enter Try.func27, Try.ntmps27
    go_wp2_with fail
    go_ret
    exact ⟨rfl, rfl⟩
  · have d0 : decide (k < 0) = false := by simpa using h0
    by_cases h4 : 4 ≤ k
    · have d4 : decide (4 ≤ k) = true := by simpa using h4
      rw [if_neg (by omega)]
      clear h
      go_enter Try.func27, Try.ntmps27
      go_wp2_with fail
      go_ret
      exact ⟨rfl, rfl⟩
    · have d4 : decide (4 ≤ k) = false := by simpa using h4
      rw [if_pos (by omega)]
      obtain ⟨k, rfl⟩ : ∃ j : Nat, k = (j : Int) := ⟨k.toNat, by omega⟩
      have hk : k < 4 := by omega
      have c := h.cell hk
      unfold slB at c
      rw [Int.toNat_natCast]
      generalize (R k).length = n at c ⊢
      have i0 : (k : Int) < 4 := by omega
      clear h
      go_enter Try.func27, Try.ntmps27
      go_wp2_with fail
      go_ret
      exact ⟨rfl, rfl⟩
end Go.Proofs.Ytdolgpogjnfpkaa
/- Places: some of a kind, one of them, and something put there. -/
namespace Go.Proofs.Ytdolgpogjnfpkaa
set_option linter.unusedVariables false
set_option linter.unusedSimpArgs false
open Go.ChangeShapes Go.WideShapes Go.ChangeAt Go.RowKit

/-- Are so many there? -/
def plB (R : Nat → List Nat) (k f : Int) (m : Nat) : Bool := decide (0 ≤ k ∧ k < 4 ∧ 0 ≤ f ∧ f < ((R k.toNat).length : Int) ∧ (m : Int) ≤ ((R k.toNat).length : Int) - f)
def PlP (w : World) (s : Nat → Nat) (R : Nat → List Nat) (k f : Int) (m : Nat) (e : Ending) (w' : World) : Prop :=
  e = .returned (.tuple #[if plB R k f m = true then .slice (some ⟨s k.toNat, f.toNat, none⟩) m m else .slice none 0 0, .bool (plB R k f m)]) ∧ w' = w
set_option maxRecDepth 100000 in
set_option maxHeartbeats 2000000 in
theorem places_any {B : Nat} {w : World} {p : Nat} {s : Nat → Nat} {R : Nat → List Nat} (h : Bn B w p s R) (k f : Int) (m : Nat) (hm1 : 1 ≤ m) (hm : m ≤ 70000) (hf : f ≤ 9223372036854775807) :
    Calls Try.prog 32 #[.pointer (some ⟨p, 0, none⟩), .int .i64 k, .int .i64 f, .int .i64 (m : Int)] w (PlP w s R k f m) := by
  obtain ⟨P, hP⟩ : ∃ P, P = (PlP w s R k f m : Ending → World → Prop) := ⟨_, rfl⟩
  rw [← hP]
  have HNO : Hid (plB R k f m = false → P (.returned (.tuple #[.slice none 0 0, .bool false])) w) := Lib.hid (fun e => by rw [hP]; unfold PlP; rw [e]; exact ⟨rfl, rfl⟩)
  have HYES : Hid (plB R k f m = true → P (.returned (.tuple #[.slice (some ⟨s k.toNat, f.toNat, none⟩) m m, .bool true])) w) := Lib.hid (fun e => by rw [hP]; unfold PlP; rw [e]; exact ⟨rfl, rfl⟩)
  have SZ := size_any h k
  have hsz : szB R k ≤ 256 := by
    unfold szB
    split
    · exact h.len _ (by omega)
    · omega
  have hpl : plB R k f m = decide (0 ≤ f ∧ f < (szB R k : Int) ∧ (m : Int) ≤ (szB R k : Int) - f) := by
    unfold plB szB
    split
    · rename_i h1; apply decide_eq_decide.2; omega
    · rename_i h1; apply decide_eq_decide.2; omega
  have hk4 : 0 < szB R k → 0 ≤ k ∧ k < 4 := by unfold szB; split <;> intro q <;> omega
  have hsk : 0 ≤ k ∧ k < 4 → szB R k = (R k.toNat).length := by intro q; unfold szB; rw [if_pos q]
  clear hP
  by_cases h0 : f < 0
  · have d0 : decide (f < 0) = true := by simpa using h0
    have F := Lib.hid (HNO.out (by rw [hpl]; simp; omega))
    clear hpl hk4 hsk h h0
    go_enter Try.func32, Try.ntmps32
    go_wp2_with fail
    exact F.out
  have d0 : decide (f < 0) = false := by simpa using h0
  obtain ⟨f, rfl⟩ : ∃ j : Nat, f = (j : Int) := ⟨f.toNat, by omega⟩
  rw [Int.toNat_natCast] at HYES
  obtain ⟨n, hn⟩ : ∃ n, n = szB R k := ⟨_, rfl⟩
  rw [← hn] at SZ hsz hpl hk4 hsk
  by_cases h1 : n ≤ f
  · have d1 : decide ((n : Int) ≤ (f : Int)) = true := by simpa using h1
    have F := Lib.hid (HNO.out (by rw [hpl]; simp; omega))
    clear hpl hk4 hsk h hn h0
    go_enter Try.func32, Try.ntmps32
    go_wp2_with fail
    refine SZ.mono ?_
    rintro e w1 ⟨rfl, rfl⟩
    go_wp2_with fail
    exact F.out
  have d1 : decide ((n : Int) ≤ (f : Int)) = false := by simpa using h1
  have s1 : IntKind.i64.wrap ((n : Int) - (f : Int)) = (n : Int) - (f : Int) := IntWalk.i64_in _ (by omega)
  by_cases h2 : n - f < m
  · have d2 : decide ((n : Int) - (f : Int) < (m : Int)) = true := by simp; omega
    have F := Lib.hid (HNO.out (by rw [hpl]; simp; omega))
    have SZ2 := SZ
    clear hpl hk4 hsk h hn h0
    go_enter Try.func32, Try.ntmps32
    go_wp2_with fail
    refine SZ.mono ?_
    rintro e w1 ⟨rfl, rfl⟩
    go_wp2_with fail
    refine SZ2.mono ?_
    rintro e w1 ⟨rfl, rfl⟩
    go_wp2_with fail
    exact F.out
  · have d2 : decide ((n : Int) - (f : Int) < (m : Int)) = false := by simp; omega
    have F := Lib.hid (HYES.out (by rw [hpl]; simp; omega))
    obtain ⟨k, rfl⟩ : ∃ j : Nat, k = (j : Int) := ⟨k.toNat, by have := hk4 (by omega); omega⟩
    have hk : k < 4 := by have := hk4 (by omega); omega
    have c := h.cell hk
    unfold slB at c
    rw [show (R k).length = n by rw [hsk (by omega)]; simp] at c
    rw [Int.toNat_natCast] at F
    have SZ2 := SZ
    have i0 : (k : Int) < 4 := by omega
    have s2 : IntKind.i64.wrap ((f : Int) + (m : Int)) = ((f + m : Nat) : Int) := by rw [show ((f : Int) + (m : Int)) = ((f + m : Nat) : Int) by omega]; exact IntWalk.i64_in _ (by omega)
    have b1 : ((f + m : Nat) : Int) ≤ (n : Int) := by omega
    have b2 : (f : Int) ≤ ((f + m : Nat) : Int) := by omega
    have b3 : f + m - f = m := by omega
    clear hpl hk4 hsk h hn h0
    go_enter Try.func32, Try.ntmps32
    go_wp2_with fail
    refine SZ.mono ?_
    rintro e w1 ⟨rfl, rfl⟩
    go_wp2_with fail
    refine SZ2.mono ?_
    rintro e w1 ⟨rfl, rfl⟩
    go_wp2_with fail
    rw [b3]
    exact F.out

/-! ## One place -/
def atB (R : Nat → List Nat) (k i : Int) : Nat := if plB R k i 1 = true then (R k.toNat).getD i.toNat 0 else 0
theorem plB_one {R : Nat → List Nat} {k i : Int} (h : plB R k i 1 = true) : ∃ (a b : Nat), k = (a : Int) ∧ i = (b : Int) ∧ a < 4 ∧ b < (R a).length := by
  unfold plB at h
  simp only [decide_eq_true_eq] at h
  obtain ⟨h1, h2, h3, h4, h5⟩ := h
  exact ⟨k.toNat, i.toNat, by omega, by omega, by omega, by omega⟩
def AtP (w : World) (R : Nat → List Nat) (k i : Int) (e : Ending) (w' : World) : Prop := e = .returned (.tuple #[.int .u16 (atB R k i : Nat), .bool (plB R k i 1)]) ∧ w' = w
set_option maxRecDepth 100000 in
theorem at_any {B : Nat} {w : World} {p : Nat} {s : Nat → Nat} {R : Nat → List Nat} (h : Bn B w p s R) (k i : Int) (hi : i ≤ 9223372036854775807) :
    Calls Try.prog 21 #[.pointer (some ⟨p, 0, none⟩), .int .i64 k, .int .i64 i] w (AtP w R k i) := by
  obtain ⟨P, hP⟩ : ∃ P, P = (AtP w R k i : Ending → World → Prop) := ⟨_, rfl⟩
  rw [← hP]
  have PL := places_any h k i 1 (by omega) (by omega) hi
  unfold PlP at PL
  cases hb : plB R k i 1 with
  | false =>
    rw [hb] at PL
    have F : Hid (P (.returned (.tuple #[.int .u16 0, .bool false])) w) := Lib.hid (by rw [hP]; unfold AtP atB; rw [hb]; exact ⟨rfl, rfl⟩)
    clear hP h hb
    go_enter Try.func21, Try.ntmps21
    go_wp2_with fail
    refine PL.mono ?_
    rintro e w1 ⟨rfl, rfl⟩
    go_wp2_with fail
    exact F.out
  | true =>
    rw [hb] at PL
    obtain ⟨a, b, rfl, rfl, ha, hbl⟩ := plB_one hb
    have c := (h.at ha hbl).1
    have F : Hid (P (.returned (.tuple #[.int .u16 (((R a).getD b 0 : Nat) : Int), .bool true])) w) := Lib.hid (by rw [hP]; unfold AtP atB; rw [hb]; simp)
    simp only [Int.toNat_natCast] at PL
    generalize (R a).getD b 0 = x at c F
    clear hP h hb
    go_enter Try.func21, Try.ntmps21
    go_wp2_with fail
    refine PL.mono ?_
    rintro e w1 ⟨rfl, rfl⟩
    go_wp2_with fail
    exact F.out

/-- What comes to stand there: of coils and inputs 0 or 1. -/
def capV (k : Int) (v : Nat) : Nat := if k = 0 ∨ k = 1 then min v 1 else v
def putB (R : Nat → List Nat) (k i : Int) (v : Nat) : Nat → List Nat := if plB R k i 1 = true then upR R k.toNat ((R k.toNat).set i.toNat (capV k v)) else R
def PutB (B : Nat) (w : World) (p : Nat) (s : Nat → Nat) (R : Nat → List Nat) (k i : Int) (v : Nat) (e : Ending) (w' : World) : Prop :=
  e = .returned (.bool (plB R k i 1)) ∧ Bn B w' p s (putB R k i v) ∧ Fw (bl s) w w'
theorem wv_setB (L : List Nat) (i x : Nat) : (wv L).set i (.int .u16 (x : Int)) = wv (L.set i x) := by simp [wv, List.map_set]
theorem Bn.put {B : Nat} {w : World} {p : Nat} {s : Nat → Nat} {R : Nat → List Nat} (h : Bn B w p s R) {a b : Nat} (ha : a < 4) (x : Nat) (hx : x < 65536) :
    Bn B (w.setCell ⟨s a, b, none⟩ (.int .u16 (x : Int))) p s (upR R a ((R a).set b x)) ∧ Fw (bl s) w (w.setCell ⟨s a, b, none⟩ (.int .u16 (x : Int))) := by
  refine ⟨h.set ha (by simp) (fun v hv => ?_) (Fw.set w (s a) b _) ?_, (Fw.set w (s a) b _).mono (by intro y hy; simp at hy; subst hy; exact bl_mem ha)⟩
  · rcases List.mem_or_eq_of_mem_set hv with q | q
    · exact h.wd a ha v q
    · omega
  · rw [← wv_setB]
    simp [World.setCell, Array.getElem?_modify, h.row a ha]
set_option maxRecDepth 100000 in
theorem putb_any {B : Nat} {w : World} {p : Nat} {s : Nat → Nat} {R : Nat → List Nat} (h : Bn B w p s R) (k i : Int) (v : Nat) (hi : i ≤ 9223372036854775807) (hv : v < 65536) :
    Calls Try.prog 15 #[.pointer (some ⟨p, 0, none⟩), .int .i64 k, .int .i64 i, .int .u16 (v : Int)] w (PutB B w p s R k i v) := by
  obtain ⟨P, hP⟩ : ∃ P, P = (PutB B w p s R k i v : Ending → World → Prop) := ⟨_, rfl⟩
  rw [← hP]
  have PL := places_any h k i 1 (by omega) (by omega) hi
  unfold PlP at PL
  cases hb : plB R k i 1 with
  | false =>
    rw [hb] at PL
    have F : Hid (P (.returned (.bool false)) w) := Lib.hid (by rw [hP]; unfold PutB putB; rw [hb]; exact ⟨rfl, h, Fw.refl _ _⟩)
    clear hP h hb
    go_enter Try.func15, Try.ntmps15
    go_wp2_with fail
    refine PL.mono ?_
    rintro e w1 ⟨rfl, rfl⟩
    go_wp2_with fail
    exact F.out
  | true =>
    rw [hb] at PL
    obtain ⟨a, b, rfl, rfl, ha, hbl⟩ := plB_one hb
    obtain ⟨c, fz⟩ := h.at ha hbl
    have F : Hid (∀ x : Nat, x = capV (a : Int) v → P (.returned (.bool true)) (w.setCell ⟨s a, b, none⟩ (.int .u16 (x : Int)))) := Lib.hid (by
      intro x hx
      have hx2 : x < 65536 := by rw [hx]; unfold capV; split <;> omega
      have := h.put ha (b := b) x hx2
      rw [hP]; unfold PutB putB; rw [hb, ← hx]; simpa using this)
    simp only [Int.toNat_natCast] at PL
    generalize (R a).getD b 0 = y at c
    clear hP hb
    by_cases h01 : a = 0 ∨ a = 1
    · have F1 := Lib.hid (F.out (min v 1) (by unfold capV; rw [if_pos (by omega)]))
      have hd : ((a : Int) == 0) = true ∨ (((a : Int) == 0) = false ∧ ((a : Int) == 1) = true) := by simp; omega
      by_cases hv1 : v < 1
      · obtain rfl : v = 0 := by omega
        have F2 : Hid (P (.returned (.bool true)) (w.setCell ⟨s a, b, none⟩ (.int .u16 0))) := Lib.hid (by simpa using F1.out)
        clear h F1 F hv1
        rcases h01 with rfl | rfl
        all_goals
          go_enter Try.func15, Try.ntmps15
          go_wp2_with fail
          refine PL.mono ?_
          rintro e w1 ⟨rfl, rfl⟩
          go_wp2_with fail
          exact F2.out
      · have F2 : Hid (P (.returned (.bool true)) (w.setCell ⟨s a, b, none⟩ (.int .u16 1))) := Lib.hid (by
          have := F1.out
          rw [Nat.min_eq_right (by omega)] at this
          simpa using this)
        have hv2 : ¬ (v : Int) < 1 := by omega
        clear h F1 F
        rcases h01 with rfl | rfl
        all_goals
          go_enter Try.func15, Try.ntmps15
          go_wp2_with fail
          refine PL.mono ?_
          rintro e w1 ⟨rfl, rfl⟩
          go_wp2_with fail
          all_goals first | exact F2.out | (exfalso; omega) | (have e1 : v = 1 := (by omega); subst e1; exact F2.out)
    · have F1 := Lib.hid (F.out v (by unfold capV; rw [if_neg (by omega)]))
      have d0 : ((a : Int) == 0) = false := by simp; omega
      have d1 : ((a : Int) == 1) = false := by simp; omega
      clear h F h01
      go_enter Try.func15, Try.ntmps15
      go_wp2_with fail
      refine PL.mono ?_
      rintro e w1 ⟨rfl, rfl⟩
      go_wp2_with fail
      exact F1.out
/-! ## Which places -/
def kdB (fc : Int) : Int := if fc = 1 ∨ fc = 5 ∨ fc = 15 then 0 else if fc = 2 then 1 else if fc = 4 then 3 else 2
theorem kind_any (fc : Int) (w : World) : Calls Try.prog 35 #[.int .i64 fc] w fun e w' => e = .returned (.int .i64 (kdB fc)) ∧ w' = w := by
  obtain ⟨P, hP⟩ : ∃ P, P = (fun (e : Ending) (w' : World) => e = .returned (.int .i64 (kdB fc)) ∧ w' = w) := ⟨_, rfl⟩
  rw [← hP]
  have F : Hid (∀ z, z = kdB fc → P (.returned (.int .i64 z)) w) := Lib.hid (fun z hz => by rw [hP, hz]; exact ⟨rfl, rfl⟩)
  clear hP
  by_cases h1 : fc = 1
  · subst h1; go_enter Try.func35, Try.ntmps35; go_wp2_with fail; exact F.out _ (by decide)
  by_cases h2 : fc = 5
  · subst h2; go_enter Try.func35, Try.ntmps35; go_wp2_with fail; exact F.out _ (by decide)
  by_cases h3 : fc = 15
  · subst h3; go_enter Try.func35, Try.ntmps35; go_wp2_with fail; exact F.out _ (by decide)
  by_cases h4 : fc = 2
  · subst h4; go_enter Try.func35, Try.ntmps35; go_wp2_with fail; exact F.out _ (by decide)
  by_cases h5 : fc = 4
  · subst h5; go_enter Try.func35, Try.ntmps35; go_wp2_with fail; exact F.out _ (by decide)
  have d1 : (fc == 1) = false := by simpa using h1
  have d2 : (fc == 5) = false := by simpa using h2
  have d3 : (fc == 15) = false := by simpa using h3
  have d4 : (fc == 2) = false := by simpa using h4
  have d5 : (fc == 4) = false := by simpa using h5
  have G := Lib.hid (F.out 2 (by unfold kdB; simp [h1, h2, h3, h4, h5]))
  clear h1 h2 h3 h4 h5 F
  go_enter Try.func35, Try.ntmps35
  go_wp2_with fail
  exact G.out
end Go.Proofs.Ytdolgpogjnfpkaa
/- Places: New. -/
namespace Go.Proofs.Ytdolgpogjnfpkaa
set_option linter.unusedVariables false
set_option linter.unusedSimpArgs false
open Go.ChangeShapes Go.WideShapes Go.ChangeAt Go.RowKit

/-- No less than none, and no more than may be. -/
def clB (n : Int) : Nat := if n < 0 then 0 else if n < 256 then n.toNat else 256
theorem clB_le (n : Int) : clB n ≤ 256 := by unfold clB; split; omega; split <;> omega
def n4 (x0 x1 x2 x3 : Int) : Nat → Int := fun k => match k with | 0 => x0 | 1 => x1 | 2 => x2 | _ => x3
/-- k rows are made. -/
structure Nw (w : World) (x0 x1 x2 x3 : Int) (p : Nat) (k : Nat) (s : Nat → Nat) (W : World) : Prop where
  hp : w.heap.size ≤ p
  blk : W.heap[p]? = some (.cells ((List.range 4).map fun j => if j < k then (.slice (some ⟨s j, 0, none⟩) (clB (n4 x0 x1 x2 x3 j)) (clB (n4 x0 x1 x2 x3 j)) : Value) else .slice none 0 0).toArray 64 (0, 0))
  hs : ∀ j, j < k → w.heap.size ≤ s j ∧ s j ≠ p ∧ s j < W.heap.size
  ne : ∀ i j, i < k → j < k → i ≠ j → s i ≠ s j
  row : ∀ j, j < k → W.heap[s j]? = some (.cells (wv (List.replicate (clB (n4 x0 x1 x2 x3 j)) 0)).toArray 34 (0, 0))
  bel : Below w.heap.size w W
theorem Nw.done {w W : World} {x0 x1 x2 x3 : Int} {p : Nat} {s : Nat → Nat} (h : Nw w x0 x1 x2 x3 p 4 s W) : Bn w.heap.size W p s (fun j => List.replicate (clB (n4 x0 x1 x2 x3 j)) 0) := by
  refine ⟨h.hp, ?_, fun k hk => ⟨(h.hs k hk).1, (h.hs k hk).2.1⟩, h.ne, h.row, fun k hk => ?_, fun k hk v hv => ?_⟩
  · rw [h.blk]
    simp [List.range, List.range.loop, slB]
  · simp; exact clB_le _
  · rw [List.mem_replicate] at hv; omega
theorem Nw.next {w W : World} {x0 x1 x2 x3 : Int} {p k : Nat} {s : Nat → Nat} (h : Nw w x0 x1 x2 x3 p k s W) (hk : k < 4) {c : Nat} (hc : c = clB (n4 x0 x1 x2 x3 k)) {W1 : World} (g1 : Below W.heap.size W W1) (g2 : W1.heap[W.heap.size]? = some (.cells (wv (List.replicate c 0)).toArray 34 (0, 0))) :
    Nw w x0 x1 x2 x3 p (k + 1) (fun j => if j = k then W.heap.size else s j) (W1.setCell ⟨p, k, none⟩ (.slice (some ⟨W.heap.size, 0, none⟩) c c)) := by
  have hpl := blk_ltB h.blk
  have hoth : ∀ q, q ≠ p → (W1.setCell ⟨p, k, none⟩ (.slice (some ⟨W.heap.size, 0, none⟩) c c)).heap[q]? = W1.heap[q]? := fun q hq => Below.heap_setCell _ _ _ _ hq
  have hs1 := g1.size
  have hlt := blk_ltB g2
  refine ⟨h.hp, ?_, fun j hj => ?_, fun i j hi hj hij => ?_, fun j hj => ?_, ?_⟩
  · have hb := (g1.block p hpl).trans h.blk
    simp only [World.setCell, Array.getElem?_modify, if_true, hb, Option.map_some]
    congr 1
    have : k = 0 ∨ k = 1 ∨ k = 2 ∨ k = 3 := by omega
    rcases this with rfl | rfl | rfl | rfl <;> simp [List.range, List.range.loop, hc]
  · by_cases e : j = k
    · subst e; simp only [if_true]; exact ⟨h.bel.size, by omega, by simp; omega⟩
    · simp only [if_neg e]
      obtain ⟨h1, h2, h3⟩ := h.hs j (by omega)
      exact ⟨h1, h2, by simp; omega⟩
  · by_cases e : i = k
    · subst e
      rw [if_pos rfl, if_neg (fun q => hij q.symm)]
      have := (h.hs j (by omega)).2.2; omega
    · rw [if_neg e]
      by_cases e2 : j = k
      · rw [if_pos e2]; have := (h.hs i (by omega)).2.2; omega
      · rw [if_neg e2]; exact h.ne i j (by omega) (by omega) hij
  · by_cases e : j = k
    · subst e
      rw [if_pos rfl, hoth _ (by omega), ← hc]; exact g2
    · rw [if_neg e]
      obtain ⟨h1, h2, h3⟩ := h.hs j (by omega)
      rw [hoth _ h2, g1.block _ h3]; exact h.row j (by omega)
  · exact (h.bel.trans (g1.mono h.bel.size)).setCell h.hp _
theorem Nw.drew {w W : World} {x0 x1 x2 x3 : Int} {p k : Nat} {s : Nat → Nat} (h : Nw w x0 x1 x2 x3 p k s W) : Nw w x0 x1 x2 x3 p k s W.drew :=
  ⟨h.hp, h.blk, h.hs, h.ne, h.row, h.bel.drew⟩
def NewBP (w : World) (x0 x1 x2 x3 : Int) (e : Ending) (w' : World) : Prop := ∃ p s, e = .returned (.pointer (some ⟨p, 0, none⟩)) ∧ Bn w.heap.size w' p s (fun j => List.replicate (clB (n4 x0 x1 x2 x3 j)) 0) ∧ Below w.heap.size w w'
set_option maxRecDepth 100000 in
set_option maxHeartbeats 4000000 in
theorem newb_any (x0 x1 x2 x3 : Int) (w : World) : Calls Try.prog 10 #[.agg #[.int .i64 x0, .int .i64 x1, .int .i64 x2, .int .i64 x3]] w (NewBP w x0 x1 x2 x3) := by
  obtain ⟨P, hP⟩ : ∃ P, P = (NewBP w x0 x1 x2 x3 : Ending → World → Prop) := ⟨_, rfl⟩
  rw [← hP]
  obtain ⟨p, hp⟩ : ∃ p, p = w.heap.size + 1 := ⟨_, rfl⟩
  have FIN : Hid (∀ W s, Nw w x0 x1 x2 x3 p 4 s W → P (.returned (.pointer (some ⟨p, 0, none⟩))) W) := Lib.hid (fun W s h => by rw [hP]; exact ⟨p, s, rfl, h.done, h.bel⟩)
  have HP := Lib.hid hp
  obtain ⟨W0, hW0⟩ : ∃ W, W = (w.alloc (.cells #[.int .i64 x0, .int .i64 x1, .int .i64 x2, .int .i64 x3] 22 (0, 0))).alloc (.cells #[.slice none 0 0, .slice none 0 0, .slice none 0 0, .slice none 0 0] 64 (0, 0)) := ⟨_, rfl⟩
  have N0 : Hid (Nw w x0 x1 x2 x3 p 0 (fun _ => 0) W0) := Lib.hid (by
    refine ⟨by omega, ?_, fun j hj => by omega, fun i j hi => by omega, fun j hj => by omega, ?_⟩
    · have := heap_alloc_new (w.alloc (.cells #[.int .i64 x0, .int .i64 x1, .int .i64 x2, .int .i64 x3] 22 (0, 0))) (.cells #[.slice none 0 0, .slice none 0 0, .slice none 0 0, .slice none 0 0] 64 (0, 0))
      rw [World.size_alloc] at this
      rw [hW0, hp, this]
      simp [List.range, List.range.loop]
    · rw [hW0]; exact ((Below.refl _ _).alloc (Nat.le_refl _) _).alloc (by simp) _)
  have HW0 := Lib.hid hW0
  clear hP hp hW0
  go_enter Try.func10, Try.ntmps10
  go_wp2_with fail
  rw [← HP.out, ← HW0.out]
  go_loopw [9] (fun iv wr => ∃ (k : Nat) (s : Nat → Nat), k ≤ 4 ∧ iv = .int .i64 k ∧ Nw w x0 x1 x2 x3 p k s wr) (fun iv _ => 4 - (intOf iv).toNat)
  case atStart => exact ⟨0, _, by omega, rfl, N0.out⟩
  case round =>
    obtain ⟨wo, rfl⟩ : ∃ wo : World, wo = wr := ⟨_, rfl⟩
    obtain ⟨k, s, hk, rfl, hN⟩ := hrel
    have HN := Lib.hid hN
    by_cases hk4 : k < 4
    · have hix : ∀ W, (Instr.index 22 (.agg #[.int .i64 x0, .int .i64 x1, .int .i64 x2, .int .i64 x3]) (.int .i64 (k : Int))).run Try.prog W = .ok (.int .i64 (n4 x0 x1 x2 x3 k)) W := by
        intro W
        rcases (show k = 0 ∨ k = 1 ∨ k = 2 ∨ k = 3 by omega) with rfl | rfl | rfl | rfl <;> rfl
      obtain ⟨x, hx⟩ : ∃ x, x = n4 x0 x1 x2 x3 k := ⟨_, rfl⟩
      rw [← hx] at hix
      obtain ⟨c, hc⟩ : ∃ c, c = clB x := ⟨_, rfl⟩
      have hcl : c ≤ 256 := by rw [hc]; exact clB_le _
      have hmk := fun W => make_w c (by omega) W
      obtain ⟨Z, hZ⟩ : ∃ Z, Z = (wv (List.replicate c 0)).toArray := ⟨_, rfl⟩
      rw [← hZ] at hmk
      have hcell : ∃ v, wo.cell? ⟨p, k, none⟩ = some v := by
        rcases (show k = 0 ∨ k = 1 ∨ k = 2 ∨ k = 3 by omega) with rfl | rfl | rfl | rfl <;> simp [World.cell?, hN.blk, List.range, List.range.loop]
      obtain ⟨v, hcell⟩ := hcell
      have hfz : wo.frozen? ⟨p, k, none⟩ = false := by simp [World.frozen?, hN.blk]
      have hpl := blk_ltB hN.blk
      have NXT : Hid (Nw w x0 x1 x2 x3 p (k + 1) (fun j => if j = k then wo.heap.size else s j) (((wo.setCell ⟨p, k, none⟩ (.slice (some ⟨wo.heap.size, 0, none⟩) c c)).alloc (.cells Z 34 (0, 0))).drew)) := Lib.hid (Nw.drew <| by rw [← World.setCell_alloc_past (w := wo) (.cells Z 34 (0, 0)) p k _ hpl]; exact hN.next hk4 (by rw [hc, hx]) ((Below.refl _ _).alloc (Nat.le_refl _) _) (by rw [hZ]; exact heap_alloc_new wo _))
      have hcase : (x < 0 ∧ c = 0) ∨ (0 ≤ x ∧ x < 256 ∧ (c : Int) = x) ∨ (256 ≤ x ∧ c = 256) := by
        rw [hc]; unfold clB; split
        · exact .inl ⟨by omega, rfl⟩
        · split
          · exact .inr (.inl ⟨by omega, by omega, by omega⟩)
          · exact .inr (.inr ⟨by omega, rfl⟩)
      have hkk : (k : Int) < 4 := by omega
      clear hN hc hx hZ
      rcases hcase with ⟨h1, rfl⟩ | ⟨h1, h2, h3⟩ | ⟨h1, rfl⟩
      · have hmk0 : ∀ W, (Instr.makeSlice 30 (.int .i64 0) (.int .i64 0)).run Try.prog W = .ok (.slice (some ⟨W.heap.size, 0, none⟩) 0 0) (W.alloc (.cells Z 34 (0, 0))) := hmk
        clear hmk
        go_wp2_with fail
        go_region
        all_goals
          go_wp2_with fail
          go_roundw
          case rel => exact ⟨k + 1, _, by omega, by go_num, NXT.out⟩
          case measure => simp [intOf]; omega
      · subst h3
        have e2 : (if 0 < c then (c : Int) else 0) = (c : Int) := by split <;> omega
        go_wp2_with fail
        go_region
        all_goals
          go_wp2_with fail
          go_roundw
          case rel => exact ⟨k + 1, _, by omega, by go_num, NXT.out⟩
          case measure => simp [intOf]; omega
      · have e3 : (if (256 : Int) < x then (256 : Int) else x) = 256 := by split <;> omega
        have hmk0 : ∀ W, (Instr.makeSlice 30 (.int .i64 256) (.int .i64 256)).run Try.prog W = .ok (.slice (some ⟨W.heap.size, 0, none⟩) 256 256) (W.alloc (.cells Z 34 (0, 0))) := hmk
        clear hmk
        go_wp2_with fail
        go_region
        all_goals
          go_wp2_with fail
          go_roundw
          case rel => exact ⟨k + 1, _, by omega, by go_num, NXT.out⟩
          case measure => simp [intOf]; omega
    · have hk' : k = 4 := by omega
      subst hk'
      clear hN
      go_wp2_with fail
      exact FIN.out _ _ HN.out
end Go.Proofs.Ytdolgpogjnfpkaa
/- Places: what a request brings is written. -/
namespace Go.Proofs.Ytdolgpogjnfpkaa
set_option linter.unusedVariables false
set_option linter.unusedSimpArgs false
open Go.ChangeShapes Go.WideShapes Go.ChangeAt Go.RowKit

theorem splice_wv (L F : List Nat) (o : Nat) : splice (wv L) o (wv F) = wv (splice L o F) := by
  simp [splice, wv, List.map_take, List.map_drop]
theorem splice_wd {L F : List Nat} {o : Nat} (hL : ∀ b ∈ L, b < 65536) (hF : ∀ b ∈ F, b < 65536) : ∀ b ∈ splice L o F, b < 65536 := by
  intro b hb
  simp only [splice, List.mem_append] at hb
  rcases hb with h | h | h
  · exact hL b (List.mem_of_mem_take h)
  · exact hF b h
  · exact hL b (List.mem_of_mem_drop h)
/-- copy into a row of words: nothing else is changed. -/
theorem wpList_copy_w {ops : Array Oper} {rest : List Oper} {o : Oper} {ac : Act} {w : World} {Q : Exit → Act → World → Prop} (hgd : o.guard = none) (d x : Operand)
    (ho : o.op = .call { callee := .builtin .copy, args := #[d, x], argTypes := #[30, 30] }) (g off n cd : Nat) (a : Option Addr) (len cs : Nat) (hd : ac.eval d = .slice (some ⟨g, off, none⟩) n cd) (hs : ac.eval x = .slice a len cs)
    (L : List Nat) (hg : w.heap[g]? = some (.cells (wv L).toArray 34 (0, 0))) (V : List Nat) (hV : Wds w a len V) (hfit : off + Nat.min len n ≤ L.length)
    (h : ∀ w', w'.heap[g]? = some (.cells (wv (splice L off (V.take n))).toArray 34 (0, 0)) → Fw [g] w w' → wpList Try.prog ops Q rest (ac.put o.dst (goInt (Nat.min len n))) w') :
    wpList Try.prog ops Q (o :: rest) ac w := by
  have hu := Try.underlying30
  have hsz : (Try.prog.info? 34).map (·.size) = some 1 := by kernel_rfl
  have hln := hV.ln
  have hcl : (wv (V.take n)).length = Nat.min len n := by simp [wv, hln, Nat.min_comm]
  by_cases h0 : Nat.min len n = 0
  · refine wpList_copy_nothing hgd d x 30 30 ho 34 hu hsz (some ⟨g, off, none⟩) a n cd len cs hd hs h0 ?_
    have e : V.take n = [] := by
      have : (V.take n).length = 0 := by rw [List.length_take, hln, Nat.min_comm]; exact h0
      exact List.eq_nil_of_length_eq_zero this
    have := h w (by rw [e]; simpa [splice] using hg) (Fw.refl _ _)
    rwa [h0] at this
  · obtain ⟨b, o2, rfl, hlt, hc⟩ := hV.pos (Nat.pos_of_ne_zero (fun q => h0 (by rw [q]; exact Nat.zero_min n)))
    have hsrc : ∀ j v, (wv (V.take n))[j]? = some v → w.cell? ((⟨b, o2, none⟩ : Addr).add j) = some v := by
      intro j v hv
      have hj : j < Nat.min len n := by
        have := (List.getElem?_eq_some_iff.1 hv).1
        rwa [hcl] at this
      have hj2 : j < len := Nat.lt_of_lt_of_le hj (Nat.min_le_left _ _)
      have hj3 : j < n := Nat.lt_of_lt_of_le hj (Nat.min_le_right _ _)
      rw [addr_add_none, hc j hj2, ← hv]
      rw [wv_get _ _ (by rw [List.length_take, hln]; exact Nat.lt_min.2 ⟨hj3, hj2⟩)]
      congr 3
      simp [List.getD, List.getElem?_take_of_lt hj3]
    refine wpList_copy_own hgd d x 30 30 ho 34 hu hsz g off n cd ⟨b, o2, none⟩ len cs hd hs (wv L).toArray 34 hg (wv (V.take n)) hcl hsrc (by rw [hcl]; simpa [wv] using hfit) (wv_one _) ?_
    have h2 := h (w.setRow g (splice (wv L) off (wv (V.take n))).toArray) (by rw [setRow_heap w g _ _ 34 _ hg, splice_wv]) (Fw.setRow w g _)
    rw [← hcl] at h2
    simpa [splice] using h2

/-- A mask, of one word. -/
def mskN (a x y : Nat) : Nat := (a &&& x) ||| (y &&& (65535 - x))
theorem msk_lt {a x y : Nat} (ha : a < 65536) (hy : y < 65536) : mskN a x y < 65536 := by
  unfold mskN
  exact Nat.or_lt_two_pow (n := 16) (Nat.lt_of_le_of_lt Nat.and_le_left ha) (Nat.lt_of_le_of_lt Nat.and_le_left hy)
theorem msk_go {a x y : Nat} (ha : a < 65536) (hx : x < 65536) (hy : y < 65536) : Go.bits .or .u16 (Go.bits .and .u16 (a : Int) (x : Int)) (Go.bits .andNot .u16 (y : Int) (x : Int)) = ((mskN a x y : Nat) : Int) := by
  rw [u16_and_nat a x ha hx, u16_andNot_nat y x hy hx, u16_or_nat _ _ (Nat.lt_of_le_of_lt Nat.and_le_left ha) (Nat.lt_of_le_of_lt Nat.and_le_left hy)]
  rfl
/-- What comes to stand in a row. -/
def wrL (r : Rq) (L : List Nat) (t n : Nat) : List Nat := if r.fc = 22 then L.set t (mskN (L.getD t 0) (r.V.getD 0 0) (r.V.getD 1 0)) else splice L t (r.V.take n)
def WriteQ (B : Nat) (w : World) (p : Nat) (s : Nat → Nat) (R : Nat → List Nat) (k : Nat) (L : List Nat) (e : Ending) (w' : World) : Prop :=
  e = .returned (.tuple #[]) ∧ Bn B w' p s (upR R k L) ∧ Fw (bl s) w w'
set_option maxRecDepth 100000 in
set_option maxHeartbeats 4000000 in
theorem write_any {B : Nat} {w : World} {p : Nat} {s : Nat → Nat} {R : Nat → List Nat} (h : Bn B w p s R) {k t n : Nat} (hk : k < 4) (n1 : 1 ≤ n) (hfit : t + n ≤ (R k).length) (c : Nat) (r : Rq) (hr : r.ok w) (h22 : r.fc = 22 → r.V.length = 2) (hvn : r.vn ≤ 100000) :
    Calls Try.prog 36 #[.slice (some ⟨s k, t, none⟩) n c, rv r] w (WriteQ B w p s R k (wrL r (R k) t n)) := by
  obtain ⟨P, hP⟩ : ∃ P, P = (WriteQ B w p s R k (wrL r (R k) t n) : Ending → World → Prop) := ⟨_, rfl⟩
  rw [← hP]
  have harg := hr.arg
  obtain ⟨fc, ad, q, vs, vn, vc, V, rto⟩ := r
  simp only at harg h22 hP hvn
  simp only [rv]
  obtain ⟨W, hW⟩ : ∃ W, W = w.alloc (.cells #[.int .i64 fc, .int .i64 ad, .int .i64 q, .slice vs vn vc, .int .i64 rto] 32 (0, 0)) := ⟨_, rfl⟩
  have k1 : Below w.heap.size w (w.alloc (.cells #[.int .i64 fc, .int .i64 ad, .int .i64 q, .slice vs vn vc, .int .i64 rto] 32 (0, 0))) := (Below.refl _ _).alloc (Nat.le_refl _) _
  have x0 := heap_alloc_new w (.cells #[.int .i64 fc, .int .i64 ad, .int .i64 q, .slice vs vn vc, .int .i64 rto] 32 (0, 0))
  rw [← hW] at k1 x0
  have hW2 := h.below k1
  obtain ⟨c0, c1, c2, c3, c4⟩ := cells5 x0
  have AW := harg.below k1
  by_cases hf : fc = 22
  · subst hf
    have hl2 := h22 rfl
    have hvl : vn = 2 := by have := harg.row.ln; omega
    subst hvl
    obtain ⟨b, off, rfl, hlt, hc⟩ := AW.row.pos (by omega)
    have m0 : W.cell? ⟨b, off, none⟩ = _ := hc 0 (by omega)
    have m1 := hc 1 (by omega)
    have l0 := wgetD_lt AW.row.by' 0
    have l1 := wgetD_lt AW.row.by' 1
    obtain ⟨ct, fz⟩ := hW2.at hk (i := t) (by omega)
    have lt := wgetD_lt (h.wd k hk) t
    have hm := msk_go lt l0 l1
    have hml := msk_lt (x := V.getD 0 0) lt l1
    have F : Hid (P (.returned (.tuple #[])) (W.setCell ⟨s k, t, none⟩ (.int .u16 ((mskN ((R k).getD t 0) (V.getD 0 0) (V.getD 1 0) : Nat) : Int))).drew) := Lib.hid (by
      rw [hP]
      obtain ⟨p1, p2⟩ := hW2.put hk (b := t) _ hml
      exact ⟨rfl, by unfold wrL; rw [if_pos rfl]; exact p1.below (Below.refl _ _).drew, ((Fw.of_below k1).trans p2).trans (Fw.of_below (Below.refl _ _).drew)⟩)
    generalize mskN ((R k).getD t 0) (V.getD 0 0) (V.getD 1 0) = z at hm F hml
    generalize (R k).getD t 0 = y at hm ct lt
    generalize V.getD 0 0 = v0 at *
    generalize V.getD 1 0 = v1 at *
    have HW := Lib.hid hW
    clear hP harg h hr k1 x0 hW hW2 AW hc h22
    go_enter Try.func36, Try.ntmps36
    go_upto_region 1 with fail
    rw [← HW.out]
    go_upto_region 2 with fail
    go_region
    all_goals
      go_wp2_with fail
      first | go_end0 | refine bodyPost_ret (results_none rfl _ _ _) rfl ?_ | skip
      exact F.out
  · have e22 : (fc == 22) = false := by simpa using hf
    have HW := Lib.hid hW
    have hcl : Nat.min vn n ≤ n := Nat.min_le_right _ _
    have F : Hid (∀ w', w'.heap[s k]? = some (.cells (wv (splice (R k) t (V.take n))).toArray 34 (0, 0)) → Fw [s k] W w' → P (.returned (.tuple #[])) w') := Lib.hid (by
      intro w' h1 h2
      rw [hP]
      have hfl : t + (V.take n).length ≤ (R k).length := by rw [List.length_take]; have := Nat.min_le_left n V.length; omega
      refine ⟨rfl, ?_, (Fw.of_below k1).trans (h2.mono (by intro y hy; simp at hy; subst hy; exact bl_mem hk))⟩
      unfold wrL
      rw [if_neg hf]
      exact hW2.set hk (length_splice _ _ _ hfl) (splice_wd (h.wd k hk) (fun v hv => harg.row.by' v (List.mem_of_mem_take hv))) h2 h1)
    have HRW := Lib.hid (hW2.row k hk)
    have AW := Lib.hid AW.row
    clear hP harg h hr k1 x0 hW hW2 h22 hf
    go_enter Try.func36, Try.ntmps36
    go_upto_region 1 with fail
    rw [← HW.out]
    go_upto_region 4 with fail
    go_wp2_with (refine wpList_copy_w rfl (.tmp 28) (.tmp 30) rfl (s k) t n c vs vn vc rfl rfl (R k) HRW.out V AW.out (by omega) ?_)
    intro w' h1 h2
    have F1 := Lib.hid (F.out w' h1 h2)
    clear h1 h2
    go_wp2_with fail
    first | go_end0 | refine bodyPost_ret (results_none rfl _ _ _) rfl ?_
    exact F1.out
end Go.Proofs.Ytdolgpogjnfpkaa
