/- Small laws on worlds and on slices that came in, over whatever program. -/
import Derived.Test.YtdolgpogjnfpkaaRows
import Derived.WalkKit
import Derived.ProofKit
import Derived.OpenShut
import Derived.Handy
import Derived.Outline
import Derived.WalkLawsBesides
import Derived.Deep.QuietTactic
import Derived.Deep.Grids
import Derived.BigQuiet
import Derived.Deep.RegionWith
import Derived.Deep.LoopGhost
import Derived.Lib.Hide
import Derived.ChangeOld
import Derived.Below
import Derived.Laws.BytesArg
import Derived.Laws.CopyOwn
import Derived.Laws.AppendOwnNone
import Derived.Lib.SmallJoins
import Derived.WalkSmall
import Derived.Maps.AppendAt
import Derived.Maps.OwnOps
import Derived.Maps.OwnSet
import Derived.Deep.Slices
import Derived.WalkSpells
import Derived.Lib.LazyBuf
namespace Go.Proofs.Ytdolgpogjnfpkaa
set_option linter.unusedVariables false
open Go.ChangeShapes Go.WideShapes Go.ChangeAt Go.RowKit

theorem bret_int {k : IntKind} {a b : Int} (h : a = b) : Ending.returned (.int k a) = .returned (.int k b) := by rw [h]
theorem bret_bool {a b : Bool} (h : a = b) : Ending.returned (.bool a) = .returned (.bool b) := by rw [h]

/-- A slice that came in, its elements of one cell each: it is of length 0, or its cells read V. -/
structure Row (W : World) (a : Option Addr) (len : Nat) (V : Nat → Value) : Prop where
  le : len ≤ maxLen
  at' : len = 0 ∨ ∃ b off, a = some ⟨b, off, none⟩ ∧ b < W.heap.size ∧ ∀ i, i < len → W.cell? ⟨b, off + i, none⟩ = some (V i)

theorem Row.mk_of {W : World} {x : Addr} {len : Nat} {V : Nat → Value} (hl : len ≤ maxLen) (h : ∀ i, i < len → W.cell? (x.add i) = some (V i)) : Row W (some x) len V := by
  refine ⟨hl, ?_⟩
  rcases Nat.eq_zero_or_pos len with h0 | h0
  · exact .inl h0
  · right
    obtain ⟨b, off, spot⟩ := x
    have hc := h 0 h0
    have hspot : spot = none := by simpa [Addr.add] using World.cell?_spot hc
    subst hspot
    refine ⟨b, off, rfl, ?_, fun i hi => ?_⟩
    · have hc0 : W.cell? ⟨b, off, none⟩ = some (V 0) := by simpa [Addr.add] using hc
      rcases Nat.lt_or_ge b W.heap.size with h' | h'
      · exact h'
      · simp [World.cell?, Array.getElem?_eq_none h'] at hc0
    · have := h i hi
      by_cases hi0 : i = 0
      · subst hi0; simpa [Addr.add] using this
      · simpa [Addr.add, hi0] using this

section
variable {H : Type} {enc : TypeId × Value → H} {P : Program} {w : World}

theorem row_ints {t e : TypeId} {k : IntKind} {fuel : Nat} {a : Option Addr} {len cap : Nat} {x : DataW H × List MemPlace} (ht : P.underlying t = some (.slice e)) (he : P.underlying e = some (.int k)) (hc : P.cellsOf e = 1)
    (h : DataW.trod enc P w 0 (fun _ => true) true fuel t [.slice a len cap] = some x) :
    ∃ f : Nat → Int, Row w a len (fun i => .int k (f i)) ∧ ∀ i, i < len → (Lit.int k (f i)).wf = true := by
  rcases open_ints ht he hc h with ⟨hcs, _⟩ | ⟨y, l, c, zs, hcs, _, hl, hm, hz, _, hcell, hwz⟩
  · simp at hcs
    obtain ⟨rfl, rfl, rfl⟩ := hcs
    exact ⟨fun _ => 0, ⟨Nat.zero_le _, .inl rfl⟩, fun i hi => absurd hi (Nat.not_lt_zero _)⟩
  · simp at hcs
    obtain ⟨rfl, rfl, rfl⟩ := hcs
    have hz' : zs.length = cap := by simpa using hz
    refine ⟨fun i => zs.getD i 0, Row.mk_of (Nat.le_trans hl hm) (fun i hi => hcell i (by omega)), fun i hi => hwz _ ?_⟩
    have hi' : i < zs.length := by omega
    simp [List.getD, List.getElem?_eq_getElem hi']

theorem row_bools {t e : TypeId} {fuel : Nat} {a : Option Addr} {len cap : Nat} {x : DataW H × List MemPlace} (ht : P.underlying t = some (.slice e)) (he : P.underlying e = some .bool) (hc : P.cellsOf e = 1)
    (h : DataW.trod enc P w 0 (fun _ => true) true fuel t [.slice a len cap] = some x) :
    ∃ f : Nat → Bool, Row w a len (fun i => .bool (f i)) := by
  rcases Go.Deep.open_bools ht he hc h with ⟨hcs, _⟩ | ⟨y, l, c, B, hcs, _, hl, hm, _, hcell⟩
  · simp at hcs
    obtain ⟨rfl, rfl, rfl⟩ := hcs
    exact ⟨fun _ => false, ⟨Nat.zero_le _, .inl rfl⟩⟩
  · simp at hcs
    obtain ⟨rfl, rfl, rfl⟩ := hcs
    exact ⟨B, Row.mk_of (Nat.le_trans hl hm) (fun i hi => hcell i (by omega))⟩
end

theorem bd_u8 {n : Int} (h : (Lit.int .u8 n).wf = true) : 0 ≤ n ∧ n ≤ 255 := by simpa [Lit.wf, IntKind.min, IntKind.max, IntKind.signed, IntKind.bits] using h
theorem bd_u16 {n : Int} (h : (Lit.int .u16 n).wf = true) : 0 ≤ n ∧ n ≤ 65535 := by simpa [Lit.wf, IntKind.min, IntKind.max, IntKind.signed, IntKind.bits] using h
theorem bd_u32 {n : Int} (h : (Lit.int .u32 n).wf = true) : 0 ≤ n ∧ n ≤ 4294967295 := by simpa [Lit.wf, IntKind.min, IntKind.max, IntKind.signed, IntKind.bits] using h
theorem bd_i64 {n : Int} (h : (Lit.int .i64 n).wf = true) : -9223372036854775808 ≤ n ∧ n ≤ 9223372036854775807 := by simpa [Lit.wf, IntKind.min, IntKind.max, IntKind.signed, IntKind.bits] using h

end Go.Proofs.Ytdolgpogjnfpkaa
/- Bytes in memory: that came in, or that the call made. -/
namespace Go.Proofs.Ytdolgpogjnfpkaa
set_option linter.unusedVariables false
open Go.ChangeShapes Go.WideShapes Go.ChangeAt Go.RowKit

def bv (L : List Nat) : List Value := L.map fun n : Nat => Value.int .u8 ((n : Nat) : Int)
theorem bv_len (L : List Nat) : (bv L).length = L.length := by simp [bv]
theorem bv_one (L : List Nat) : ∀ v ∈ bv L, v.oneCell' = true := by
  intro v hv; simp [bv] at hv; obtain ⟨a, _, rfl⟩ := hv; rfl
theorem bv_get (L : List Nat) (i : Nat) (h : i < L.length) : (bv L)[i]? = some (.int .u8 ((L.getD i 0 : Nat) : Int)) := by
  simp [bv, List.getElem?_map, List.getElem?_eq_getElem h, List.getD]
theorem bv_app (L M : List Nat) : bv (L ++ M) = bv L ++ bv M := by simp [bv]
theorem blk_lt {w : World} {r : Nat} {o : Obj} (h : w.heap[r]? = some o) : r < w.heap.size := by
  rcases Nat.lt_or_ge r w.heap.size with h' | h'
  · exact h'
  · simp [Array.getElem?_eq_none h'] at h
theorem addr_add_none (b off n : Nat) : (Addr.mk b off none).add n = ⟨b, off + n, none⟩ := by
  by_cases h : n = 0
  · subst h; simp [Addr.add]
  · simp [Addr.add, h]

/-- Bytes that came in, or that the call owns: L. -/
structure Bys (W : World) (a : Option Addr) (len : Nat) (L : List Nat) : Prop where
  ln : L.length = len
  le : len ≤ maxLen
  by' : ∀ b ∈ L, b < 256
  at' : len = 0 ∨ ∃ b off, a = some ⟨b, off, none⟩ ∧ b < W.heap.size ∧ ∀ i, i < len → W.cell? ⟨b, off + i, none⟩ = some (.int .u8 ((L.getD i 0 : Nat) : Int))

theorem getD_lt {L : List Nat} (h : ∀ b ∈ L, b < 256) (i : Nat) : L.getD i 0 < 256 := by
  simp only [List.getD]
  by_cases hi : i < L.length
  · rw [List.getElem?_eq_getElem hi]; exact h _ (List.getElem_mem hi)
  · rw [List.getElem?_eq_none (by omega)]; decide
theorem Bys.below {W W' : World} {a : Option Addr} {len : Nat} {L : List Nat} (h : Bys W a len L) (hb : Below W.heap.size W W') : Bys W' a len L := by
  refine ⟨h.ln, h.le, h.by', ?_⟩
  rcases h.at' with z | ⟨b, off, e, hlt, hc⟩
  · exact .inl z
  · exact .inr ⟨b, off, e, Nat.lt_of_lt_of_le hlt hb.size, fun i hi => (hb.cell (p := ⟨b, off + i, none⟩) hlt).trans (hc i hi)⟩
theorem Bys.pos {W : World} {a : Option Addr} {len : Nat} {L : List Nat} (h : Bys W a len L) (hp : 0 < len) : ∃ b off, a = some ⟨b, off, none⟩ ∧ b < W.heap.size ∧ ∀ i, i < len → W.cell? ⟨b, off + i, none⟩ = some (.int .u8 ((L.getD i 0 : Nat) : Int)) := by
  rcases h.at' with z | z
  · omega
  · exact z
theorem Bys.nil (W : World) (a : Option Addr) : Bys W a 0 [] := ⟨rfl, Nat.zero_le _, by simp, .inl rfl⟩
theorem Bys.of_zero {W : World} {a : Option Addr} {L : List Nat} (h : Bys W a 0 L) : L = [] := List.eq_nil_of_length_eq_zero h.ln
/-- A part of them. -/
theorem Bys.sub {W : World} {b off len : Nat} {L : List Nat} (h : Bys W (some ⟨b, off, none⟩) len L) (k n : Nat) (hk : k + n ≤ len) : Bys W (some ⟨b, off + k, none⟩) n ((L.drop k).take n) := by
  have hln := h.ln
  refine ⟨by simp; omega, Nat.le_trans (by omega) h.le, fun x hx => h.by' x (List.mem_of_mem_drop (List.mem_of_mem_take hx)), ?_⟩
  rcases h.at' with z | ⟨b', off', e, hlt, hc⟩
  · exact .inl (by omega)
  · simp only [Option.some.injEq, Addr.mk.injEq, and_true] at e
    obtain ⟨rfl, rfl⟩ := e
    refine .inr ⟨b, off + k, rfl, hlt, fun i hi => ?_⟩
    have := hc (k + i) (by omega)
    rw [show off + k + i = off + (k + i) by omega, this]
    simp only [List.getD]
    rw [List.getElem?_take_of_lt hi, List.getElem?_drop]
theorem Bys.take {W : World} {a : Option Addr} {len : Nat} {L : List Nat} (h : Bys W a len L) (n : Nat) (hn : n ≤ len) : Bys W a n (L.take n) := by
  have hln := h.ln
  refine ⟨by simp; omega, Nat.le_trans hn h.le, fun x hx => h.by' x (List.mem_of_mem_take hx), ?_⟩
  rcases h.at' with z | ⟨b', off', e, hlt, hc⟩
  · exact .inl (by omega)
  · refine .inr ⟨b', off', e, hlt, fun i hi => ?_⟩
    rw [hc i (by omega)]
    simp only [List.getD]
    rw [List.getElem?_take_of_lt hi]

/-- Bytes of a block of the call's own. -/
theorem bys_block {W : World} {g : Nat} {t : TypeId} {m : Nat × Nat} (L : List Nat) (hl : L.length ≤ maxLen) (hb : ∀ b ∈ L, b < 256) (h : W.heap[g]? = some (.cells (bv L).toArray t m)) : Bys W (some ⟨g, 0, none⟩) L.length L := by
  refine ⟨rfl, hl, hb, .inr ⟨g, 0, rfl, blk_lt h, fun i hi => ?_⟩⟩
  simp only [World.cell?, h, Nat.zero_add]
  have := bv_get L i hi
  simpa using this

abbrev OwnB (B : Nat) (w : World) (g cap n : Nat) (L : List Nat) : Prop := w.ownsRow B 5 1 (.slice (some ⟨g, 0, none⟩) n cap) n (bv L)
theorem OwnB.at {B : Nat} {w : World} {g cap n : Nat} {L : List Nat} (h : OwnB B w g cap n L) : ∃ cur, n = L.length ∧ B ≤ g ∧ w.heap[g]? = some (.cells cur 5 (0, 0)) ∧ n ≤ cap ∧ cap ≤ maxLen ∧ cur.size = cap ∧ cur.toList.take n = bv L := by
  obtain ⟨hl, ⟨hv, _⟩ | ⟨g', cap', cur, hv, hg, hb, hl', hm, hs, ht⟩⟩ := h
  · simp at hv
  · simp at hv
    obtain ⟨rfl, rfl⟩ := hv
    exact ⟨cur, by simpa [bv_len, Eq.comm] using hl, hg, hb, hl', hm, by simpa using hs, by simpa using ht⟩
theorem OwnB.bys {B : Nat} {w : World} {g cap n : Nat} {L : List Nat} (h : OwnB B w g cap n L) (hb : ∀ b ∈ L, b < 256) : Bys w (some ⟨g, 0, none⟩) n L := by
  obtain ⟨cur, hn, hg, hbk, hl, hm, hs, ht⟩ := h.at
  subst hn
  refine ⟨rfl, by omega, hb, .inr ⟨g, 0, rfl, blk_lt hbk, fun i hi => ?_⟩⟩
  have : (cur.toList.take L.length)[i]? = (bv L)[i]? := by rw [ht]
  rw [List.getElem?_take_of_lt hi, bv_get L i hi] at this
  simp only [World.cell?, hbk, Nat.zero_add]
  have hc : cur[i]? = some (.int .u8 ((L.getD i 0 : Nat) : Int)) := by
    rw [← Array.getElem?_toList, this]
  simpa using hc
theorem OwnB.below {B : Nat} {w w' : World} {g cap n : Nat} {L : List Nat} (h : OwnB B w g cap n L) (hb : Below w.heap.size w w') : OwnB B w' g cap n L := by
  obtain ⟨cur, hn, hg, hbk, hl, hm, hs, ht⟩ := h.at
  exact ⟨by rw [bv_len]; omega, .inr ⟨g, cap, cur, rfl, hg, (hb.block g (blk_lt hbk)).trans hbk, hl, hm, by simpa using hs, by simpa using ht⟩⟩
theorem own_of_block {B : Nat} {w : World} {g : Nat} {L : List Nat} (hB : B ≤ g) (hl : L.length ≤ maxLen) (h : w.heap[g]? = some (.cells (bv L).toArray 5 (0, 0))) : OwnB B w g L.length L.length L :=
  ⟨by rw [bv_len, Nat.mul_one], .inr ⟨g, L.length, _, rfl, hB, h, Nat.le_refl _, hl, by simp [bv_len], by rw [List.take_of_length_le (by simp [bv_len])]⟩⟩

def strN (L : List Nat) : ByteArray := strOfNums (L.map fun (x : Nat) => (x : Int))
theorem conv_bys {W : World} {a : Option Addr} {len cap : Nat} {L : List Nat} (h : Bys W a len L) : (convert 33 9 (.slice a len cap)).run Try.prog W = .ok (.string (strN L)) W := by
  rcases h.at' with z | ⟨b, off, rfl, hlt, hc⟩
  · subst z
    have hf := h.of_zero
    subst hf
    rw [run_convert_bytes_string W 33 9 5 a 0 cap Try.underlying33 Try.underlying5 Try.underlying9]
    cases a with
    | none => simp [Conv.bytesToString, strN, strOfNums]; rfl
    | some x =>
      rw [run_bytesToString W x 0 cap [] (by simp [loadCells, loadCellsFrom])]
      rfl
  · refine run_convert_bytes_arg (P := Try.prog) W 33 5 Try.underlying33 Try.underlying5 b off len cap (L.map fun (x : Nat) => (x : Int)) (by simp [h.ln]) (fun i hi => ?_) 9 Try.underlying9
    rw [hc i hi]
    have : i < L.length := by rw [h.ln]; exact hi
    simp [List.getD, List.getElem?_eq_getElem this]
theorem strN_inj {L M : List Nat} (hL : ∀ b ∈ L, b < 256) (hM : ∀ b ∈ M, b < 256) : strN L = strN M ↔ L = M := by
  constructor
  · intro h
    have hk : (L.map fun (x : Nat) => (x : Int)).map (fun z => UInt8.ofNat z.toNat) = (M.map fun (x : Nat) => (x : Int)).map (fun z => UInt8.ofNat z.toNat) := by
      have := congrArg (fun s : ByteArray => s.data.toList) h
      simpa [strN, strOfNums] using this
    rw [List.map_map, List.map_map] at hk
    have back : ∀ K : List Nat, (∀ b ∈ K, b < 256) → (K.map ((fun z : Int => UInt8.ofNat z.toNat) ∘ fun x : Nat => (x : Int))).map UInt8.toNat = K := by
      intro K hK
      rw [List.map_map]
      conv => rhs; rw [← List.map_id K]
      apply List.map_congr_left
      intro x hx
      have := hK x hx
      simp [Function.comp]
      omega
    have := congrArg (List.map UInt8.toNat) hk
    rwa [back L hL, back M hM] at this
  · rintro rfl; rfl

theorem bys_row {W : World} {a : Option Addr} {len : Nat} {f : Nat → Int} (r : Row W a len (fun i => .int .u8 (f i))) (wf : ∀ i, i < len → (Lit.int .u8 (f i)).wf = true) : Bys W a len ((List.range len).map fun i => (f i).toNat) := by
  refine ⟨by simp, r.le, ?_, ?_⟩
  · intro b hb
    rw [List.mem_map] at hb
    obtain ⟨i, hi, rfl⟩ := hb
    have := bd_u8 (wf i (List.mem_range.1 hi))
    omega
  · rcases r.at' with z | ⟨b, off, e, hlt, hc⟩
    · exact .inl z
    · refine .inr ⟨b, off, e, hlt, fun i hi => ?_⟩
      rw [hc i hi]
      have := bd_u8 (wf i hi)
      simp only [List.getD, List.getElem?_map, List.getElem?_range hi, Option.map_some, Option.getD_some]
      rw [Int.toNat_of_nonneg this.1]

theorem info5 : (Try.prog.info? 5).map (fun i => (i.zero, i.size, i.bytes)) = some (some (.int .u8 0), 1, 1) := by kernel_rfl
theorem made_zero (n : Nat) : (madeCells (Value.int .u8 0).cells (n * 1)).toList = bv (List.replicate n 0) := by
  simp [madeCells, Value.cells, bv, Nat.mod_one, List.map_const']

/-- An argument of bytes. -/
structure ArgB (w : World) (a : Option Addr) (len cap : Nat) (L : List Nat) : Prop where
  row : Bys w a len L
  nil : a = none → len = 0 ∧ cap = 0
  le : len ≤ cap
  mx : cap ≤ maxLen
theorem ArgB.below {W w : World} {a : Option Addr} {len cap : Nat} {L : List Nat} (h : ArgB W a len cap L) (hb : Below W.heap.size W w) : ArgB w a len cap L := ⟨h.row.below hb, h.nil, h.le, h.mx⟩
theorem OwnB.arg {B : Nat} {w : World} {g cap n : Nat} {L : List Nat} (h : OwnB B w g cap n L) (hb : ∀ b ∈ L, b < 256) : ArgB w (some ⟨g, 0, none⟩) n cap L := by
  obtain ⟨cur, hn, hg, hbk, hl, hm, hs, ht⟩ := h.at
  exact ⟨h.bys hb, (fun e => by cases e), hl, hm⟩
theorem arg_bytes {H : Type} {enc : TypeId × Value → H} {w : World} {fuel : Nat} {a : Option Addr} {len cap : Nat} {x : DataW H × List MemPlace} (h : DataW.trod enc Try.prog w 0 (fun _ => true) true fuel 33 [.slice a len cap] = some x) :
    ∃ L : List Nat, ArgB w a len cap L := by
  rcases open_ints (k := .u8) Try.underlying33 Try.underlying5 (by kernel_rfl) h with ⟨hcs, _⟩ | ⟨y, l, c, zs, hcs, _, hl, hm, hz, _, hcell, hwz⟩
  · simp at hcs
    obtain ⟨rfl, rfl, rfl⟩ := hcs
    exact ⟨[], Bys.nil _ _, fun _ => ⟨rfl, rfl⟩, Nat.le_refl _, Nat.zero_le _⟩
  · simp at hcs
    obtain ⟨rfl, rfl, rfl⟩ := hcs
    have hz' : zs.length = cap := by simpa using hz
    have hr : Row w (some y) len (fun i => .int .u8 (zs.getD i 0)) := Row.mk_of (Nat.le_trans hl hm) (fun i hi => hcell i (by omega))
    refine ⟨_, bys_row hr (fun i hi => hwz _ ?_), (fun e => by cases e), hl, hm⟩
    have hi' : i < zs.length := by omega
    simp [List.getD, List.getElem?_eq_getElem hi']

theorem own_none {B : Nat} {w : World} : w.ownsRow B 5 1 (.slice none 0 0) 0 (bv []) := ⟨rfl, .inl ⟨rfl, rfl⟩⟩
theorem own_new {B : Nat} {w : World} (hB : B ≤ w.heap.size) : (w.alloc (.cells #[] 5 (0, 0))).ownsRow B 5 1 (.slice (some ⟨w.heap.size, 0, none⟩) 0 0) 0 (bv []) :=
  ⟨rfl, .inr ⟨w.heap.size, 0, #[], rfl, hB, heap_alloc_new w _, Nat.le_refl _, Nat.zero_le _, rfl, rfl⟩⟩
/-- Bytes, or nothing, behind a row that the call owns. -/
theorem wpList_append_bys {ops : Array Oper} {rest : List Oper} {o : Oper} {ac : Act} {Q : Exit → Act → World → Prop} (hgd : o.guard = none) (s x : Operand)
    (ho : o.op = .call { callee := .builtin .append, args := #[s, x], argTypes := #[33, 33] }) (B : Nat) (w : World) (hB : B ≤ w.heap.size) (v : Value) (n : Nat) (L : List Nat) (hs : ac.eval s = v)
    (hown : w.ownsRow B 5 1 v n (bv L)) (a : Option Addr) (len cap : Nat) (M : List Nat) (hx : ac.eval x = .slice a len cap) (hb : Bys w a len M) (hnil : a = none → cap = 0) (hle : n + len ≤ 100000000)
    (h : ∀ v' w', w'.ownsRow B 5 1 v' (n + len) (bv (L ++ M)) → w.grownBy w' v.ownBlock → (v' = .slice none 0 0 ↔ v = .slice none 0 0 ∧ len = 0) → (v'.ownBlock = v.ownBlock ∨ v'.ownBlock = some w.heap.size) → wpList Try.prog ops Q rest (ac.put o.dst v') w') :
    wpList Try.prog ops Q (o :: rest) ac w := by
  obtain ⟨ti, hi, hz0, hz1, hz2⟩ := info_parts info5
  cases a with
  | none =>
    obtain rfl := hnil rfl
    have h0 : len = 0 := by
      rcases hb.at' with z | ⟨_, _, e, _⟩
      · exact z
      · cases e
    subst h0
    have hM := hb.of_zero
    subst hM
    refine wpList_append_own_none hgd s x 33 ho B 5 ti 1 Try.underlying33 hi _ n (bv L) hs hown hx ?_
    exact h v w (by simpa using hown) ⟨rfl, rfl, rfl, Nat.le_refl _, fun _ _ _ => rfl⟩ (by simp) (.inl rfl)
  | some ad =>
    have hc : ∀ j u, (bv M)[j]? = some u → w.cell? (ad.add j) = some u := by
      intro j u hu
      have hj : j < len := by
        have := (List.getElem?_eq_some_iff.1 hu).1
        rwa [bv_len, hb.ln] at this
      obtain ⟨b, off, ha, _, hcc⟩ := hb.pos (by omega)
      simp at ha
      subst ha
      rw [bv_get M j (by rw [hb.ln]; exact hj)] at hu
      rw [addr_add_none, ← hu]
      exact hcc j hj
    refine wpList_append_own_at _ hgd s x 33 ho B 5 ti (.int .u8 0) 1 1 Try.underlying33 hi hz0 hz1 hz2 rfl (by decide) v n (bv L) hs hown ad len cap (bv M) hx (by rw [bv_len, hb.ln]; omega) hc (bv_one _) (by unfold maxLen; omega) (by omega) hB ?_
    intro v' w' hown' hg hnn hbk
    exact h v' w' (by rw [bv_app]; exact hown') hg hnn hbk
theorem owns_slice {B : Nat} {w : World} {v : Value} {n : Nat} {L : List Nat} (h : w.ownsRow B 5 1 v n (bv L)) (hp : ¬ v = .slice none 0 0) : ∃ g cap, v = .slice (some ⟨g, 0, none⟩) n cap ∧ OwnB B w g cap n L := by
  obtain ⟨h1, ⟨h0, _⟩ | ⟨g', cap', cur, hv, hrest⟩⟩ := h
  · exact absurd h0 hp
  · exact ⟨g', cap', hv, h1, .inr ⟨g', cap', cur, rfl, hrest⟩⟩
/-- What is owned, taken apart. -/
theorem owns_cases {B : Nat} {w : World} {v : Value} {n : Nat} {L : List Nat} (h : w.ownsRow B 5 1 v n (bv L)) (hp : 0 < n) : ∃ g cap, v = .slice (some ⟨g, 0, none⟩) n cap ∧ OwnB B w g cap n L := by
  obtain ⟨h1, ⟨_, h0⟩ | ⟨g', cap', cur, hv, hrest⟩⟩ := h
  · omega
  · exact ⟨g', cap', hv, h1, .inr ⟨g', cap', cur, rfl, hrest⟩⟩
end Go.Proofs.Ytdolgpogjnfpkaa
/- Words of 16 bits in memory. -/
namespace Go.Proofs.Ytdolgpogjnfpkaa
set_option linter.unusedVariables false
open Go.ChangeShapes Go.WideShapes Go.ChangeAt Go.RowKit

def wv (L : List Nat) : List Value := L.map fun n : Nat => Value.int .u16 ((n : Nat) : Int)
theorem wv_len (L : List Nat) : (wv L).length = L.length := by simp [wv]
theorem wv_one (L : List Nat) : ∀ v ∈ wv L, v.oneCell' = true := by
  intro v hv; simp [wv] at hv; obtain ⟨a, _, rfl⟩ := hv; rfl
theorem wv_get (L : List Nat) (i : Nat) (h : i < L.length) : (wv L)[i]? = some (.int .u16 ((L.getD i 0 : Nat) : Int)) := by
  simp [wv, List.getElem?_map, List.getElem?_eq_getElem h, List.getD]
theorem wv_app (L M : List Nat) : wv (L ++ M) = wv L ++ wv M := by simp [wv]
/-- Bytes that came in, or that the call owns: L. -/
structure Wds (W : World) (a : Option Addr) (len : Nat) (L : List Nat) : Prop where
  ln : L.length = len
  le : len ≤ maxLen
  by' : ∀ b ∈ L, b < 65536
  at' : len = 0 ∨ ∃ b off, a = some ⟨b, off, none⟩ ∧ b < W.heap.size ∧ ∀ i, i < len → W.cell? ⟨b, off + i, none⟩ = some (.int .u16 ((L.getD i 0 : Nat) : Int))

theorem wgetD_lt {L : List Nat} (h : ∀ b ∈ L, b < 65536) (i : Nat) : L.getD i 0 < 65536 := by
  simp only [List.getD]
  by_cases hi : i < L.length
  · rw [List.getElem?_eq_getElem hi]; exact h _ (List.getElem_mem hi)
  · rw [List.getElem?_eq_none (by omega)]; decide
theorem Wds.below {W W' : World} {a : Option Addr} {len : Nat} {L : List Nat} (h : Wds W a len L) (hb : Below W.heap.size W W') : Wds W' a len L := by
  refine ⟨h.ln, h.le, h.by', ?_⟩
  rcases h.at' with z | ⟨b, off, e, hlt, hc⟩
  · exact .inl z
  · exact .inr ⟨b, off, e, Nat.lt_of_lt_of_le hlt hb.size, fun i hi => (hb.cell (p := ⟨b, off + i, none⟩) hlt).trans (hc i hi)⟩
theorem Wds.pos {W : World} {a : Option Addr} {len : Nat} {L : List Nat} (h : Wds W a len L) (hp : 0 < len) : ∃ b off, a = some ⟨b, off, none⟩ ∧ b < W.heap.size ∧ ∀ i, i < len → W.cell? ⟨b, off + i, none⟩ = some (.int .u16 ((L.getD i 0 : Nat) : Int)) := by
  rcases h.at' with z | z
  · omega
  · exact z
theorem Wds.nil (W : World) (a : Option Addr) : Wds W a 0 [] := ⟨rfl, Nat.zero_le _, by simp, .inl rfl⟩
theorem Wds.of_zero {W : World} {a : Option Addr} {L : List Nat} (h : Wds W a 0 L) : L = [] := List.eq_nil_of_length_eq_zero h.ln
/-- A part of them. -/
theorem Wds.sub {W : World} {b off len : Nat} {L : List Nat} (h : Wds W (some ⟨b, off, none⟩) len L) (k n : Nat) (hk : k + n ≤ len) : Wds W (some ⟨b, off + k, none⟩) n ((L.drop k).take n) := by
  have hln := h.ln
  refine ⟨by simp; omega, Nat.le_trans (by omega) h.le, fun x hx => h.by' x (List.mem_of_mem_drop (List.mem_of_mem_take hx)), ?_⟩
  rcases h.at' with z | ⟨b', off', e, hlt, hc⟩
  · exact .inl (by omega)
  · simp only [Option.some.injEq, Addr.mk.injEq, and_true] at e
    obtain ⟨rfl, rfl⟩ := e
    refine .inr ⟨b, off + k, rfl, hlt, fun i hi => ?_⟩
    have := hc (k + i) (by omega)
    rw [show off + k + i = off + (k + i) by omega, this]
    simp only [List.getD]
    rw [List.getElem?_take_of_lt hi, List.getElem?_drop]
theorem Wds.take {W : World} {a : Option Addr} {len : Nat} {L : List Nat} (h : Wds W a len L) (n : Nat) (hn : n ≤ len) : Wds W a n (L.take n) := by
  have hln := h.ln
  refine ⟨by simp; omega, Nat.le_trans hn h.le, fun x hx => h.by' x (List.mem_of_mem_take hx), ?_⟩
  rcases h.at' with z | ⟨b', off', e, hlt, hc⟩
  · exact .inl (by omega)
  · refine .inr ⟨b', off', e, hlt, fun i hi => ?_⟩
    rw [hc i (by omega)]
    simp only [List.getD]
    rw [List.getElem?_take_of_lt hi]

/-- Bytes of a block of the call's own. -/
theorem wds_block {W : World} {g : Nat} {t : TypeId} {m : Nat × Nat} (L : List Nat) (hl : L.length ≤ maxLen) (hb : ∀ b ∈ L, b < 65536) (h : W.heap[g]? = some (.cells (wv L).toArray t m)) : Wds W (some ⟨g, 0, none⟩) L.length L := by
  refine ⟨rfl, hl, hb, .inr ⟨g, 0, rfl, blk_lt h, fun i hi => ?_⟩⟩
  simp only [World.cell?, h, Nat.zero_add]
  have := wv_get L i hi
  simpa using this

abbrev OwnW (B : Nat) (w : World) (g cap n : Nat) (L : List Nat) : Prop := w.ownsRow B 34 1 (.slice (some ⟨g, 0, none⟩) n cap) n (wv L)
theorem OwnW.at {B : Nat} {w : World} {g cap n : Nat} {L : List Nat} (h : OwnW B w g cap n L) : ∃ cur, n = L.length ∧ B ≤ g ∧ w.heap[g]? = some (.cells cur 34 (0, 0)) ∧ n ≤ cap ∧ cap ≤ maxLen ∧ cur.size = cap ∧ cur.toList.take n = wv L := by
  obtain ⟨hl, ⟨hv, _⟩ | ⟨g', cap', cur, hv, hg, hb, hl', hm, hs, ht⟩⟩ := h
  · simp at hv
  · simp at hv
    obtain ⟨rfl, rfl⟩ := hv
    exact ⟨cur, by simpa [wv_len, Eq.comm] using hl, hg, hb, hl', hm, by simpa using hs, by simpa using ht⟩
theorem OwnW.wds {B : Nat} {w : World} {g cap n : Nat} {L : List Nat} (h : OwnW B w g cap n L) (hb : ∀ b ∈ L, b < 65536) : Wds w (some ⟨g, 0, none⟩) n L := by
  obtain ⟨cur, hn, hg, hbk, hl, hm, hs, ht⟩ := h.at
  subst hn
  refine ⟨rfl, by omega, hb, .inr ⟨g, 0, rfl, blk_lt hbk, fun i hi => ?_⟩⟩
  have : (cur.toList.take L.length)[i]? = (wv L)[i]? := by rw [ht]
  rw [List.getElem?_take_of_lt hi, wv_get L i hi] at this
  simp only [World.cell?, hbk, Nat.zero_add]
  have hc : cur[i]? = some (.int .u16 ((L.getD i 0 : Nat) : Int)) := by
    rw [← Array.getElem?_toList, this]
  simpa using hc
theorem OwnW.below {B : Nat} {w w' : World} {g cap n : Nat} {L : List Nat} (h : OwnW B w g cap n L) (hb : Below w.heap.size w w') : OwnW B w' g cap n L := by
  obtain ⟨cur, hn, hg, hbk, hl, hm, hs, ht⟩ := h.at
  exact ⟨by rw [wv_len]; omega, .inr ⟨g, cap, cur, rfl, hg, (hb.block g (blk_lt hbk)).trans hbk, hl, hm, by simpa using hs, by simpa using ht⟩⟩
theorem ownw_of_block {B : Nat} {w : World} {g : Nat} {L : List Nat} (hB : B ≤ g) (hl : L.length ≤ maxLen) (h : w.heap[g]? = some (.cells (wv L).toArray 34 (0, 0))) : OwnW B w g L.length L.length L :=
  ⟨by rw [wv_len, Nat.mul_one], .inr ⟨g, L.length, _, rfl, hB, h, Nat.le_refl _, hl, by simp [wv_len], by rw [List.take_of_length_le (by simp [wv_len])]⟩⟩

theorem wds_row {W : World} {a : Option Addr} {len : Nat} {f : Nat → Int} (r : Row W a len (fun i => .int .u16 (f i))) (wf : ∀ i, i < len → (Lit.int .u16 (f i)).wf = true) : Wds W a len ((List.range len).map fun i => (f i).toNat) := by
  refine ⟨by simp, r.le, ?_, ?_⟩
  · intro b hb
    rw [List.mem_map] at hb
    obtain ⟨i, hi, rfl⟩ := hb
    have := bd_u16 (wf i (List.mem_range.1 hi))
    omega
  · rcases r.at' with z | ⟨b, off, e, hlt, hc⟩
    · exact .inl z
    · refine .inr ⟨b, off, e, hlt, fun i hi => ?_⟩
      rw [hc i hi]
      have := bd_u16 (wf i hi)
      simp only [List.getD, List.getElem?_map, List.getElem?_range hi, Option.map_some, Option.getD_some]
      rw [Int.toNat_of_nonneg this.1]

theorem info34 : (Try.prog.info? 34).map (fun i => (i.zero, i.size, i.bytes)) = some (some (.int .u16 0), 1, 2) := by kernel_rfl
/-- An argument of bytes. -/
structure ArgW (w : World) (a : Option Addr) (len cap : Nat) (L : List Nat) : Prop where
  row : Wds w a len L
  nil : a = none → len = 0 ∧ cap = 0
  le : len ≤ cap
  mx : cap ≤ maxLen
theorem ArgW.below {W w : World} {a : Option Addr} {len cap : Nat} {L : List Nat} (h : ArgW W a len cap L) (hb : Below W.heap.size W w) : ArgW w a len cap L := ⟨h.row.below hb, h.nil, h.le, h.mx⟩
theorem OwnW.arg {B : Nat} {w : World} {g cap n : Nat} {L : List Nat} (h : OwnW B w g cap n L) (hb : ∀ b ∈ L, b < 65536) : ArgW w (some ⟨g, 0, none⟩) n cap L := by
  obtain ⟨cur, hn, hg, hbk, hl, hm, hs, ht⟩ := h.at
  exact ⟨h.wds hb, (fun e => by cases e), hl, hm⟩
theorem arg_words {H : Type} {enc : TypeId × Value → H} {w : World} {fuel : Nat} {a : Option Addr} {len cap : Nat} {x : DataW H × List MemPlace} (h : DataW.trod enc Try.prog w 0 (fun _ => true) true fuel 30 [.slice a len cap] = some x) :
    ∃ L : List Nat, ArgW w a len cap L := by
  rcases open_ints (k := .u16) Try.underlying30 Try.underlying34 (by kernel_rfl) h with ⟨hcs, _⟩ | ⟨y, l, c, zs, hcs, _, hl, hm, hz, _, hcell, hwz⟩
  · simp at hcs
    obtain ⟨rfl, rfl, rfl⟩ := hcs
    exact ⟨[], Wds.nil _ _, fun _ => ⟨rfl, rfl⟩, Nat.le_refl _, Nat.zero_le _⟩
  · simp at hcs
    obtain ⟨rfl, rfl, rfl⟩ := hcs
    have hz' : zs.length = cap := by simpa using hz
    have hr : Row w (some y) len (fun i => .int .u16 (zs.getD i 0)) := Row.mk_of (Nat.le_trans hl hm) (fun i hi => hcell i (by omega))
    refine ⟨_, wds_row hr (fun i hi => hwz _ ?_), (fun e => by cases e), hl, hm⟩
    have hi' : i < zs.length := by omega
    simp [List.getD, List.getElem?_eq_getElem hi']

theorem ownw_none {B : Nat} {w : World} : w.ownsRow B 34 1 (.slice none 0 0) 0 (wv []) := ⟨rfl, .inl ⟨rfl, rfl⟩⟩
theorem ownw_new {B : Nat} {w : World} (hB : B ≤ w.heap.size) : (w.alloc (.cells #[] 34 (0, 0))).ownsRow B 34 1 (.slice (some ⟨w.heap.size, 0, none⟩) 0 0) 0 (wv []) :=
  ⟨rfl, .inr ⟨w.heap.size, 0, #[], rfl, hB, heap_alloc_new w _, Nat.le_refl _, Nat.zero_le _, rfl, rfl⟩⟩
/-- Bytes, or nothing, behind a row that the call owns. -/
theorem wpList_append_wds {ops : Array Oper} {rest : List Oper} {o : Oper} {ac : Act} {Q : Exit → Act → World → Prop} (hgd : o.guard = none) (s x : Operand)
    (ho : o.op = .call { callee := .builtin .append, args := #[s, x], argTypes := #[30, 30] }) (B : Nat) (w : World) (hB : B ≤ w.heap.size) (v : Value) (n : Nat) (L : List Nat) (hs : ac.eval s = v)
    (hown : w.ownsRow B 34 1 v n (wv L)) (a : Option Addr) (len cap : Nat) (M : List Nat) (hx : ac.eval x = .slice a len cap) (hb : Wds w a len M) (hnil : a = none → cap = 0) (hle : n + len ≤ 100000000)
    (h : ∀ v' w', w'.ownsRow B 34 1 v' (n + len) (wv (L ++ M)) → w.grownBy w' v.ownBlock → (v' = .slice none 0 0 ↔ v = .slice none 0 0 ∧ len = 0) → (v'.ownBlock = v.ownBlock ∨ v'.ownBlock = some w.heap.size) → wpList Try.prog ops Q rest (ac.put o.dst v') w') :
    wpList Try.prog ops Q (o :: rest) ac w := by
  obtain ⟨ti, hi, hz0, hz1, hz2⟩ := info_parts info34
  cases a with
  | none =>
    obtain rfl := hnil rfl
    have h0 : len = 0 := by
      rcases hb.at' with z | ⟨_, _, e, _⟩
      · exact z
      · cases e
    subst h0
    have hM := hb.of_zero
    subst hM
    refine wpList_append_own_none hgd s x 30 ho B 34 ti 1 Try.underlying30 hi _ n (wv L) hs hown hx ?_
    exact h v w (by simpa using hown) ⟨rfl, rfl, rfl, Nat.le_refl _, fun _ _ _ => rfl⟩ (by simp) (.inl rfl)
  | some ad =>
    have hc : ∀ j u, (wv M)[j]? = some u → w.cell? (ad.add j) = some u := by
      intro j u hu
      have hj : j < len := by
        have := (List.getElem?_eq_some_iff.1 hu).1
        rwa [wv_len, hb.ln] at this
      obtain ⟨b, off, ha, _, hcc⟩ := hb.pos (by omega)
      simp at ha
      subst ha
      rw [wv_get M j (by rw [hb.ln]; exact hj)] at hu
      rw [addr_add_none, ← hu]
      exact hcc j hj
    refine wpList_append_own_at _ hgd s x 30 ho B 34 ti (.int .u16 0) 1 2 Try.underlying30 hi hz0 hz1 hz2 rfl (by decide) v n (wv L) hs hown ad len cap (wv M) hx (by rw [wv_len, hb.ln]; omega) hc (wv_one _) (by unfold maxLen; omega) (by omega) hB ?_
    intro v' w' hown' hg hnn hbk
    exact h v' w' (by rw [wv_app]; exact hown') hg hnn hbk
theorem ownsw_slice {B : Nat} {w : World} {v : Value} {n : Nat} {L : List Nat} (h : w.ownsRow B 34 1 v n (wv L)) (hp : ¬ v = .slice none 0 0) : ∃ g cap, v = .slice (some ⟨g, 0, none⟩) n cap ∧ OwnW B w g cap n L := by
  obtain ⟨h1, ⟨h0, _⟩ | ⟨g', cap', cur, hv, hrest⟩⟩ := h
  · exact absurd h0 hp
  · exact ⟨g', cap', hv, h1, .inr ⟨g', cap', cur, rfl, hrest⟩⟩
/-- What is owned, taken apart. -/
theorem ownsw_cases {B : Nat} {w : World} {v : Value} {n : Nat} {L : List Nat} (h : w.ownsRow B 34 1 v n (wv L)) (hp : 0 < n) : ∃ g cap, v = .slice (some ⟨g, 0, none⟩) n cap ∧ OwnW B w g cap n L := by
  obtain ⟨h1, ⟨_, h0⟩ | ⟨g', cap', cur, hv, hrest⟩⟩ := h
  · omega
  · exact ⟨g', cap', hv, h1, .inr ⟨g', cap', cur, rfl, hrest⟩⟩
end Go.Proofs.Ytdolgpogjnfpkaa
/- A map keyed by ints, that holds whatever values: what is looked up, put and struck. -/
namespace Go.Proofs.Ytdolgpogjnfpkaa
set_option linter.unusedVariables false
open Go.ChangeShapes Go.WideShapes Go.ChangeAt Go.RowKit Go.ChangeMaps Go.MapKept

/-- Any value reads as itself. -/
def heldV (v : Value) : Option (DataW Value × List MemPlace) := some (.held v, [])

/-- Block b is a map of at most n entries, keyed by ints, that holds F. -/
structure IMap (P : Program) (k : TypeId) (w : World) (b n : Nat) (F : Int → Option Value) : Prop where
  ex : ∃ D : DataW Value, w.ownsMap P k heldV b n D ∧ Maps.IsMap D ∧ ∀ i, (∀ v, F i = some v → Maps.has D (.int .i64 i) = true ∧ ∀ z, D.atKey (.int .i64 i) z = .held v) ∧ (F i = none → Maps.has D (.int .i64 i) = false)

section
variable {P : Program} {k e t : TypeId} {w : World} {b n : Nat} {F : Int → Option Value}

theorem IMap.lt (h : IMap P k w b n F) : b < w.heap.size := by
  obtain ⟨D, hD, _⟩ := h.ex
  exact hD.lt
theorem IMap.below {w' : World} (h : IMap P k w b n F) (hb : Below w.heap.size w w') : IMap P k w' b n F := by
  have hlt := h.lt
  obtain ⟨D, ⟨es, clock, hbk, hF, hs, hd⟩, h2⟩ := h.ex
  exact ⟨D, ⟨es, clock, (hb.block b hlt).trans hbk, hF, hs, hd⟩, h2⟩
theorem IMap.same {w' : World} (h : IMap P k w b n F) (hb : w'.heap[b]? = w.heap[b]?) : IMap P k w' b n F := by
  obtain ⟨D, ⟨es, clock, hbk, hF, hs, hd⟩, h2⟩ := h.ex
  exact ⟨D, ⟨es, clock, hb.trans hbk, hF, hs, hd⟩, h2⟩
theorem IMap.mono {n' : Nat} (h : IMap P k w b n F) (hn : n ≤ n') : IMap P k w b n' F := by
  obtain ⟨D, hD, h2⟩ := h.ex
  exact ⟨D, hD.mono hn, h2⟩
theorem IMap.congr {F' : Int → Option Value} (h : IMap P k w b n F) (hf : ∀ i, F' i = F i) : IMap P k w b n F' := by
  have : F' = F := funext hf
  rw [this]; exact h

theorem imap_made (w : World) (P : Program) (k : TypeId) : IMap P k (w.alloc (.map #[] 0)) w.heap.size 0 (fun _ => none) :=
  ⟨.map [], World.ownsMap_made w P k heldV, Maps.isMap_empty, fun i => ⟨fun v h => (by cases h), fun _ => rfl⟩⟩

theorem key_i64 {i : Int} (hk : P.underlying k = some (.int .i64)) (hw : (Lit.int .i64 i).wf = true) : keyOf P k (.int .i64 i) = some (.int .i64 i) := Maps.keyOf_int_mk hk hw

theorem IMap.look (h : IMap P k w b n F) (ht : P.underlying t = some (.map k e)) (hk : P.underlying k = some (.int .i64)) {z : Value} (hz : (zeroValue e).run P w = .ok z w) {i : Int} (hw : (Lit.int .i64 i).wf = true) :
    (Instr.lookup t (.map (some b)) (.int .i64 i) false).run P w = .ok ((F i).getD z) w := by
  obtain ⟨D, hD, hm, hF⟩ := h.ex
  obtain ⟨v, ps, hrun, hv⟩ := hD.lookup (Maps.int_keyed hk) ht hz (zd := .held z) (zp := []) rfl (key_i64 hk hw)
  rw [hrun]
  have hv' : DataW.held v = D.atKey (.int .i64 i) (.held z) := congrArg Prod.fst (Option.some.inj hv)
  cases hFi : F i with
  | none =>
    rw [Maps.atKey_of_not_has ((hF i).2 hFi)] at hv'
    cases hv'; rfl
  | some u =>
    rw [((hF i).1 u hFi).2] at hv'
    cases hv'; rfl

theorem IMap.look_ok (h : IMap P k w b n F) (ht : P.underlying t = some (.map k e)) (hk : P.underlying k = some (.int .i64)) {z : Value} (hz : (zeroValue e).run P w = .ok z w) {i : Int} (hw : (Lit.int .i64 i).wf = true) :
    (Instr.lookup t (.map (some b)) (.int .i64 i) true).run P w = .ok (.tuple #[(F i).getD z, .bool (F i).isSome]) w := by
  obtain ⟨D, hD, hm, hF⟩ := h.ex
  obtain ⟨v, ps, hrun, hv⟩ := hD.look_ok (Maps.int_keyed hk) ht hz (zd := .held z) (zp := []) rfl (key_i64 hk hw)
  rw [hrun]
  have hv' : DataW.held v = D.atKey (.int .i64 i) (.held z) := congrArg Prod.fst (Option.some.inj hv)
  cases hFi : F i with
  | none =>
    rw [Maps.atKey_of_not_has ((hF i).2 hFi)] at hv'
    rw [(hF i).2 hFi]
    cases hv'; rfl
  | some u =>
    rw [((hF i).1 u hFi).2] at hv'
    rw [((hF i).1 u hFi).1]
    cases hv'; rfl

theorem isKey_i64 (i : Int) : WideAt.IsKeyLit (.int .i64 i) := by first | exact trivial | exact ⟨_, _, rfl⟩ | simp [WideAt.IsKeyLit]

theorem IMap.put (h : IMap P k w b n F) (ht : P.underlying t = some (.map k e)) (hk : P.underlying k = some (.int .i64)) (hn : n < maxLen) {i : Int} (hw : (Lit.int .i64 i).wf = true) (v : Value) :
    ∃ w', (Instr.mapUpdate t (.map (some b)) (.int .i64 i) v).run P w = .ok () w' ∧ IMap P k w' b (n + 1) (fun j => if j = i then some v else F j) ∧ w.mapTurned w' b := by
  obtain ⟨D, hD, hm, hF⟩ := h.ex
  obtain ⟨w', hrun, h1, h2⟩ := hD.store (Maps.int_keyed hk) ht hn (key_i64 hk hw) (d := .held v) (ps := []) rfl
  refine ⟨w', hrun, ⟨_, h1, hm.put _ _, fun j => ?_⟩, h2⟩
  by_cases hj : j = i
  · subst hj
    refine ⟨fun u hu => ?_, fun hu => by simp at hu⟩
    simp at hu
    subst hu
    exact ⟨Maps.has_put_same hm (isKey_i64 _) _, fun z => Maps.atKey_put_same hm (isKey_i64 _) _ z⟩
  · have hne : (Lit.int .i64 j) ≠ Lit.int .i64 i := by intro he; cases he; exact hj rfl
    simp only [if_neg hj]
    refine ⟨fun u hu => ?_, fun hu => ?_⟩
    · rw [Maps.has_put_other hne]
      exact ⟨((hF j).1 u hu).1, fun z => by rw [Maps.atKey_put_other hne]; exact ((hF j).1 u hu).2 z⟩
    · rw [Maps.has_put_other hne]; exact (hF j).2 hu

theorem IMap.drop (h : IMap P k w b n F) (ht : P.underlying t = some (.map k e)) (hk : P.underlying k = some (.int .i64)) {i : Int} (hw : (Lit.int .i64 i).wf = true) (ty : TypeId) :
    ∃ w', (Builtin.delete_ #[t, k] ty #[.map (some b), .int .i64 i]).run P w = .ok (.tuple #[]) w' ∧ IMap P k w' b n (fun j => if j = i then none else F j) ∧ w.mapTurned w' b := by
  obtain ⟨D, hD, hm, hF⟩ := h.ex
  obtain ⟨w', hrun, h1, h2⟩ := hD.drop (Maps.int_keyed hk) ht (key_i64 hk hw) ty
  refine ⟨w', hrun, ⟨_, h1, hm.del _, fun j => ?_⟩, h2⟩
  by_cases hj : j = i
  · subst hj
    refine ⟨fun u hu => by simp at hu, fun _ => Maps.has_del_same⟩
  · have hne : (Lit.int .i64 j) ≠ Lit.int .i64 i := by intro he; cases he; exact hj rfl
    simp only [if_neg hj]
    refine ⟨fun u hu => ?_, fun hu => ?_⟩
    · rw [Maps.has_del_other hne]
      exact ⟨((hF j).1 u hu).1, fun z => by rw [Maps.atKey_del_other hne]; exact ((hF j).1 u hu).2 z⟩
    · rw [Maps.has_del_other hne]; exact (hF j).2 hu

/-- Nothing but the map's block has turned. -/
theorem turned_below {w' : World} {B : Nat} (h : w.mapTurned w' b) (hB : B ≤ b) (hs : B ≤ w.heap.size) : Below B w w' := by
  have hg := h.grown
  exact ⟨hg.os, hg.tape, hg.output, hg.size, fun i hi => hg.block i (by omega) (by intro he; cases he; omega)⟩
end
end Go.Proofs.Ytdolgpogjnfpkaa
/- A slice that came in whose elements are structs of several cells, opened at every index. -/
namespace Go.Proofs.Ytdolgpogjnfpkaa
set_option linter.unusedVariables false
open Go.ChangeShapes Go.WideShapes Go.ChangeAt Go.RowKit

/-- A slice that came in, its elements of sz cells each: it is of length 0, or its cells read V. -/
structure RowS (W : World) (a : Option Addr) (len sz : Nat) (V : Nat → List Value) : Prop where
  le : len ≤ maxLen
  at' : len = 0 ∨ ∃ b off, a = some ⟨b, off, none⟩ ∧ b < W.heap.size ∧ ∀ i, i < len → ∀ j, j < sz → W.cell? ⟨b, off + (i * sz + j), none⟩ = (V i)[j]?

theorem RowS.pos {W : World} {a : Option Addr} {len sz : Nat} {V : Nat → List Value} (h : RowS W a len sz V) (hp : 0 < len) :
    ∃ b off, a = some ⟨b, off, none⟩ ∧ b < W.heap.size ∧ ∀ i, i < len → ∀ j, j < sz → W.cell? ⟨b, off + i * sz + j, none⟩ = (V i)[j]? := by
  rcases h.at' with z | ⟨b, off, z1, z2, z3⟩
  · omega
  · exact ⟨b, off, z1, z2, fun i hi j hj => by rw [Nat.add_assoc]; exact z3 i hi j hj⟩


theorem RowS.mk_of {W : World} {x : Addr} {len sz : Nat} {V : Nat → List Value} (hl : len ≤ maxLen) (hsz : 0 < sz) (hV : ∀ i, i < len → (V i).length = sz) (h : ∀ i, i < len → ∀ j, j < sz → W.cell? (x.add (i * sz + j)) = (V i)[j]?) : RowS W (some x) len sz V := by
  refine ⟨hl, ?_⟩
  rcases Nat.eq_zero_or_pos len with h0 | h0
  · exact .inl h0
  · right
    obtain ⟨b, off, spot⟩ := x
    have hl0 : 0 < (V 0).length := by rw [hV 0 h0]; exact hsz
    have hc : W.cell? ((Addr.mk b off spot).add (0 * sz + 0)) = some ((V 0)[0]) := by rw [h 0 h0 0 hsz]; simp [List.getElem?_eq_getElem hl0]
    have hspot : spot = none := by simpa [Addr.add] using World.cell?_spot hc
    subst hspot
    refine ⟨b, off, rfl, ?_, fun i hi j hj => ?_⟩
    · have hc0 : W.cell? ⟨b, off, none⟩ = some ((V 0)[0]) := by simpa [Addr.add] using hc
      rcases Nat.lt_or_ge b W.heap.size with h' | h'
      · exact h'
      · simp [World.cell?, Array.getElem?_eq_none h'] at hc0
    · have := h i hi j hj
      rwa [addr_add_none] at this

theorem RowS.congr {W : World} {a : Option Addr} {len sz : Nat} {V V' : Nat → List Value} (h : RowS W a len sz V) (e : ∀ i, i < len → V i = V' i) : RowS W a len sz V' := by
  refine ⟨h.le, ?_⟩
  rcases h.at' with z | ⟨b, off, ha, hb, hc⟩
  · exact .inl z
  · exact .inr ⟨b, off, ha, hb, fun i hi j hj => by rw [← e i hi]; exact hc i hi j hj⟩

theorem list2 {l : List Value} {x y : Value} (hl : l.length = 2) (h0 : l[0]? = some x) (h1 : l[1]? = some y) : l = [x, y] := by
  match l, hl with
  | [p, q], _ => simp at h0 h1; rw [h0, h1]
theorem list3 {l : List Value} {x y z : Value} (hl : l.length = 3) (h0 : l[0]? = some x) (h1 : l[1]? = some y) (h2 : l[2]? = some z) : l = [x, y, z] := by
  match l, hl with
  | [p, q, r], _ => simp at h0 h1 h2; rw [h0, h1, h2]
theorem list4 {l : List Value} {x y z u : Value} (hl : l.length = 4) (h0 : l[0]? = some x) (h1 : l[1]? = some y) (h2 : l[2]? = some z) (h3 : l[3]? = some u) : l = [x, y, z, u] := by
  match l, hl with
  | [p, q, r, s], _ => simp at h0 h1 h2 h3; rw [h0, h1, h2, h3]

section
variable {H : Type} {enc : TypeId × Value → H} {P : Program} {w : World}

theorem row_structs {t e : TypeId} {fs : Array Field} {sz : Nat} {fuel : Nat} {a : Option Addr} {len cap : Nat} {x : DataW H × List MemPlace} (ht : P.underlying t = some (.slice e)) (he : P.underlying e = some (.struct fs)) (hc : P.cellsOf e = sz) (hsz : 0 < sz)
    (h : DataW.trod enc P w 0 (fun _ => true) true fuel t [.slice a len cap] = some x) :
    ∃ V : Nat → List Value, RowS w a len sz V ∧ ∀ i, i < len → (V i).length = sz ∧ ∃ n, ∀ (m : Nat) (f : Field), fs[m]? = some f → ∃ y, DataW.trod enc P w 0 (fun _ => true) true n f.type (((V i).drop f.offset).take (P.cellsOf f.type)) = some y := by
  rcases Go.Deep.open_slice ht h with ⟨hcs, _⟩ | ⟨y, l, c, m, n, D, Pl, hcs, _, hl, hm, hmm, hx, hcell⟩
  · simp at hcs
    obtain ⟨rfl, rfl, rfl⟩ := hcs
    exact ⟨fun _ => [], ⟨Nat.zero_le _, .inl rfl⟩, fun i hi => absurd hi (Nat.not_lt_zero _)⟩
  · simp at hcs
    obtain ⟨rfl, rfl, rfl⟩ := hcs
    have hlm : len ≤ m := by simp at hmm; omega
    obtain ⟨V, hV⟩ := Go.Deep.choose_lt (α := List Value) (p := fun i cs' => w.cells? 0 (y.add (i * P.cellsOf e)) (P.cellsOf e) = some cs' ∧ DataW.trod enc P w 0 (fun _ => true) true n e cs' = some (D i, Pl i)) hcell
    have hlen : ∀ i, i < len → (V i).length = sz := fun i hi => by
      have := (World.cells?_some (hV i (by omega)).1).2.1
      rw [this, hc]
    refine ⟨V, RowS.mk_of (Nat.le_trans hl hm) hsz hlen (fun i hi j hj => ?_), fun i hi => ⟨hlen i hi, ?_⟩⟩
    · have := (World.cells?_some (hV i (by omega)).1).2.2 j (by rw [hc]; exact hj)
      rw [Go.Deep.add_add, hc] at this
      exact this
    · obtain ⟨xs, n', _, _, _, hxs, hf⟩ := DataW.trod_struct he (hV i (by omega)).2
      refine ⟨n', fun m' f hfm => ?_⟩
      have hlt : m' < fs.size := by
        rcases Nat.lt_or_ge m' fs.size with q | q
        · exact q
        · simp [Array.getElem?_eq_none q] at hfm
      exact ⟨xs[m'], by rw [hf m' f hfm, List.getElem?_eq_getElem (by omega)]⟩

theorem field_bool {n : Nat} {T : TypeId} {l : List Value} {o : Nat} (hT : P.underlying T = some .bool) (hc : P.cellsOf T = 1) (h : ∃ y, DataW.trod enc P w 0 (fun _ => true) true n T ((l.drop o).take (P.cellsOf T)) = some y) : ∃ b, l[o]? = some (.bool b) := by
  obtain ⟨y, hy⟩ := h
  obtain ⟨b, hb, _⟩ := DataW.trod_bool hT hy
  rw [hc] at hb
  have h0 : ((l.drop o).take 1)[0]? = some (.bool b) := by rw [hb]; rfl
  exact ⟨b, by simpa using h0⟩

theorem field_int {n : Nat} {T : TypeId} {k : IntKind} {l : List Value} {o : Nat} (hT : P.underlying T = some (.int k)) (hc : P.cellsOf T = 1) (h : ∃ y, DataW.trod enc P w 0 (fun _ => true) true n T ((l.drop o).take (P.cellsOf T)) = some y) : ∃ b, l[o]? = some (.int k b) ∧ (Lit.int k b).wf = true := by
  obtain ⟨y, hy⟩ := h
  obtain ⟨b, hb, _, hw⟩ := DataW.trod_int hT hy
  rw [hc] at hb
  have h0 : ((l.drop o).take 1)[0]? = some (.int k b) := by rw [hb]; rfl
  exact ⟨b, by simpa using h0, hw⟩

theorem field_string {n : Nat} {T : TypeId} {l : List Value} {o : Nat} (hT : P.underlying T = some .string) (hc : P.cellsOf T = 1) (h : ∃ y, DataW.trod enc P w 0 (fun _ => true) true n T ((l.drop o).take (P.cellsOf T)) = some y) : ∃ b : ByteArray, l[o]? = some (.string b) ∧ b.size ≤ maxLen := by
  obtain ⟨y, hy⟩ := h
  obtain ⟨b, hb, _, hw⟩ := DataW.trod_string hT hy
  rw [hc] at hb
  have h0 : ((l.drop o).take 1)[0]? = some (.string b) := by rw [hb]; rfl
  exact ⟨b, by simpa using h0, hw⟩
end

end Go.Proofs.Ytdolgpogjnfpkaa
/- What may be asked for, as plain data. -/
namespace Go.Proofs.Ytdolgpogjnfpkaa
set_option linter.unusedVariables false
open Go.ChangeShapes Go.WideShapes Go.ChangeAt Go.RowKit

/-- What a request of one kind has. -/
structure Fo where
  rd : Bool
  wr : Bool
  bi : Bool
  q : Nat
  le : Nat
  mo : Nat
  co : Bool
  to : Bool
def fcs (f : Fo) : List Value := [.bool f.rd, .bool f.wr, .bool f.bi, .int .i64 (f.q : Int), .int .i64 (f.le : Int), .int .i64 (f.mo : Int), .bool f.co, .bool f.to]
def fv (f : Fo) : Value := .agg #[.bool f.rd, .bool f.wr, .bool f.bi, .int .i64 (f.q : Int), .int .i64 (f.le : Int), .int .i64 (f.mo : Int), .bool f.co, .bool f.to]
def fz : Fo := ⟨false, false, false, 0, 0, 0, false, false⟩
def formOf (n : Int) : Option Fo :=
  if n = 23 then some ⟨true, true, false, 125, 1, 121, true, true⟩ else
  if n = 22 then some ⟨false, true, false, 0, 2, 2, false, false⟩ else
  if n = 16 then some ⟨false, true, false, 123, 1, 123, true, false⟩ else
  if n = 15 then some ⟨false, true, true, 1968, 1, 1968, true, false⟩ else
  if n = 6 then some ⟨false, true, false, 0, 1, 1, false, false⟩ else
  if n = 5 then some ⟨false, true, true, 0, 1, 1, false, false⟩ else
  if n = 4 then some ⟨true, false, false, 125, 0, 0, false, false⟩ else
  if n = 3 then some ⟨true, false, false, 125, 0, 0, false, false⟩ else
  if n = 2 then some ⟨true, false, true, 2000, 0, 0, false, false⟩ else
  if n = 1 then some ⟨true, false, true, 2000, 0, 0, false, false⟩ else none
structure Fo.small (f : Fo) : Prop where
  q : f.q ≤ 2000
  le : f.le ≤ 2000
  mo : f.mo ≤ 2000
theorem formOf_small {n : Int} {f : Fo} (h : formOf n = some f) : f.small := by
  unfold formOf at h
  repeat' split at h
  all_goals first | (cases h; done) | (injection h with h; subst h; exact ⟨by decide, by decide, by decide⟩)
theorem fz_small : fz.small := ⟨by decide, by decide, by decide⟩
theorem form_small (n : Int) : ((formOf n).getD fz).small := by
  cases h : formOf n with
  | none => exact fz_small
  | some f => exact formOf_small h

/-- A request, as it lies. -/
structure Rq where
  fc : Int
  ad : Int
  q : Int
  vs : Option Addr
  vn : Nat
  vc : Nat
  V : List Nat
  to : Int
def rcs (r : Rq) : List Value := [.int .i64 r.fc, .int .i64 r.ad, .int .i64 r.q, .slice r.vs r.vn r.vc, .int .i64 r.to]
structure Rq.ok (r : Rq) (w : World) : Prop where
  arg : ArgW w r.vs r.vn r.vc r.V
  fc : (Lit.int .i64 r.fc).wf = true
  ad : (Lit.int .i64 r.ad).wf = true
  q : (Lit.int .i64 r.q).wf = true
  to : (Lit.int .i64 r.to).wf = true
theorem Rq.ok.below {r : Rq} {W w : World} (h : r.ok W) (hb : Below W.heap.size W w) : r.ok w := ⟨h.arg.below hb, h.fc, h.ad, h.q, h.to⟩
def isPl (n : Int) : Bool := decide (0 ≤ n) && decide (n < 65536)
def allB (V : List Nat) : Bool := V.all fun v => decide (v ≤ 1)
def sizedF (f : Fo) : Bool := f.co && !f.rd
def has (f : Fo) (r : Rq) : Bool :=
  isPl r.ad && isPl r.to && (f.to || decide (r.to = 0)) && !decide ((f.q : Int) < r.q) && !decide (r.q < (min f.q 1 : Nat)) &&
  !decide (r.V.length < f.le) && !decide (f.mo < r.V.length) && (!sizedF f || decide ((r.V.length : Int) = r.q)) && (!f.bi || allB r.V)
def fits (f : Fo) (r : Rq) : Bool := decide (r.ad + max r.q 1 ≤ 65536) && (!f.to || decide (r.to + (r.V.length : Int) ≤ 65536))
theorem has_iff (f : Fo) (r : Rq) : has f r = true ↔ isPl r.ad = true ∧ isPl r.to = true ∧ (f.to = true ∨ r.to = 0) ∧ r.q ≤ f.q ∧ (min f.q 1 : Nat) ≤ r.q ∧ f.le ≤ r.V.length ∧ r.V.length ≤ f.mo ∧ (sizedF f = true → (r.V.length : Int) = r.q) ∧ (f.bi = true → allB r.V = true) := by
  unfold has
  simp only [Bool.and_eq_true, Bool.or_eq_true, Bool.not_eq_true', decide_eq_true_eq, decide_eq_false_iff_not, Int.not_lt, Nat.not_lt]
  cases sizedF f <;> cases f.bi <;> simp [and_assoc]
end Go.Proofs.Ytdolgpogjnfpkaa
/- The forms. -/
namespace Go.Proofs.Ytdolgpogjnfpkaa
set_option linter.unusedVariables false
open Go.ChangeShapes Go.WideShapes Go.ChangeAt Go.RowKit

def FormsP (w : World) (e : Ending) (w' : World) : Prop := ∃ m, e = .returned (.map (some m)) ∧ IMap Try.prog 3 w' m 10 (fun i => (formOf i).map fv) ∧ Below w.heap.size w w'
theorem wfk {n : Int} (h1 : 0 ≤ n) (h2 : n ≤ 100000) : (Lit.int .i64 n).wf = true := by
  simp [Lit.wf, IntKind.min, IntKind.max, IntKind.signed, IntKind.bits]; omega
set_option maxRecDepth 100000 in
set_option maxHeartbeats 2000000 in
theorem forms_any (w : World) : Calls Try.prog 51 #[] w (FormsP w) := by
  have m0 := imap_made w Try.prog 3
  have b0 : Below w.heap.size w (w.alloc (.map #[] 0)) := (Below.refl _ _).alloc (Nat.le_refl _) _
  have key : ∀ (W : World) (n : Nat) (F : Int → Option Value) (k : Int) (v : Value), n < 100 → 0 ≤ k → k ≤ 100 → IMap Try.prog 3 W w.heap.size n F → Below w.heap.size w W → ∃ w', (Instr.mapUpdate 83 (.map (some w.heap.size)) (.int .i64 k) v).run Try.prog W = .ok () w' ∧ IMap Try.prog 3 w' w.heap.size (n + 1) (fun j => if j = k then some v else F j) ∧ Below w.heap.size w w' := by
    intro W n F k v hn h0 h1 hm hb
    obtain ⟨w', hr, hm', ht⟩ := hm.put (t := 83) (e := 81) Try.underlying83 Try.underlying3 (by unfold maxLen; omega) (wfk h0 (by omega)) v
    exact ⟨w', hr, hm', hb.trans (turned_below ht (Nat.le_refl _) hb.size)⟩
  obtain ⟨w1, r1, m1, b1⟩ := key _ 0 _ 1 (.agg #[.bool true, .bool false, .bool true, .int .i64 2000, .int .i64 0, .int .i64 0, .bool false, .bool false]) (by omega) (by omega) (by omega) m0 b0
  obtain ⟨w2, r2, m2, b2⟩ := key _ 1 _ 2 (.agg #[.bool true, .bool false, .bool true, .int .i64 2000, .int .i64 0, .int .i64 0, .bool false, .bool false]) (by omega) (by omega) (by omega) m1 b1
  obtain ⟨w3, r3, m3, b3⟩ := key _ 2 _ 3 (.agg #[.bool true, .bool false, .bool false, .int .i64 125, .int .i64 0, .int .i64 0, .bool false, .bool false]) (by omega) (by omega) (by omega) m2 b2
  obtain ⟨w4, r4, m4, b4⟩ := key _ 3 _ 4 (.agg #[.bool true, .bool false, .bool false, .int .i64 125, .int .i64 0, .int .i64 0, .bool false, .bool false]) (by omega) (by omega) (by omega) m3 b3
  obtain ⟨w5, r5, m5, b5⟩ := key _ 4 _ 5 (.agg #[.bool false, .bool true, .bool true, .int .i64 0, .int .i64 1, .int .i64 1, .bool false, .bool false]) (by omega) (by omega) (by omega) m4 b4
  obtain ⟨w6, r6, m6, b6⟩ := key _ 5 _ 6 (.agg #[.bool false, .bool true, .bool false, .int .i64 0, .int .i64 1, .int .i64 1, .bool false, .bool false]) (by omega) (by omega) (by omega) m5 b5
  obtain ⟨w7, r7, m7, b7⟩ := key _ 6 _ 15 (.agg #[.bool false, .bool true, .bool true, .int .i64 1968, .int .i64 1, .int .i64 1968, .bool true, .bool false]) (by omega) (by omega) (by omega) m6 b6
  obtain ⟨w8, r8, m8, b8⟩ := key _ 7 _ 16 (.agg #[.bool false, .bool true, .bool false, .int .i64 123, .int .i64 1, .int .i64 123, .bool true, .bool false]) (by omega) (by omega) (by omega) m7 b7
  obtain ⟨w9, r9, m9, b9⟩ := key _ 8 _ 22 (.agg #[.bool false, .bool true, .bool false, .int .i64 0, .int .i64 2, .int .i64 2, .bool false, .bool false]) (by omega) (by omega) (by omega) m8 b8
  obtain ⟨w10, r10, m10, b10⟩ := key _ 9 _ 23 (.agg #[.bool true, .bool true, .bool false, .int .i64 125, .int .i64 1, .int .i64 121, .bool true, .bool true]) (by omega) (by omega) (by omega) m9 b9
  have hP : FormsP w (.returned (.map (some w.heap.size))) w10 := ⟨_, rfl, m10.congr (fun i => by simp only [formOf, apply_ite (Option.map fv), Option.map_some, Option.map_none]; rfl), b10⟩
  have HP := Lib.hid hP
  clear key hP m0 b0 m1 b1 m2 b2 m3 b3 m4 b4 m5 b5 m6 b6 m7 b7 m8 b8 m9 b9 m10 b10
  have hmm := @run_makeMap Try.prog
  go_enter Try.func51, Try.ntmps51
  go_wp2_with fail
  go_ret
  exact HP.out
end Go.Proofs.Ytdolgpogjnfpkaa
/- isPlace, sized, allBits. -/
namespace Go.Proofs.Ytdolgpogjnfpkaa
set_option linter.unusedVariables false
open Go.ChangeShapes Go.WideShapes Go.ChangeAt Go.RowKit

theorem isplace_any (n : Int) (w : World) : Calls Try.prog 71 #[.int .i64 n] w fun e w' => e = .returned (.bool (isPl n)) ∧ w' = w := by
  unfold isPl
  by_cases h0 : 0 ≤ n
  · have d0 : decide (0 ≤ n) = true := by simpa using h0
    rw [d0]
    go_enter Try.func71, Try.ntmps71
    go_wp2_with fail
    go_ret
    exact ⟨rfl, rfl⟩
  · have d0 : decide (0 ≤ n) = false := by simpa using h0
    rw [d0]
    go_enter Try.func71, Try.ntmps71
    go_wp2_with fail
    go_ret
    exact ⟨rfl, rfl⟩
set_option maxRecDepth 100000 in
set_option maxHeartbeats 2000000 in
theorem sized_any (f : Fo) (w : World) : Calls Try.prog 72 #[fv f] w fun e w' => e = .returned (.bool (sizedF f)) ∧ Below w.heap.size w w' := by
  obtain ⟨rd, wr, bi, q, le, mo, co, to⟩ := f
  unfold fv sizedF
  have b0 : Below w.heap.size w (w.alloc (.cells #[.bool rd, .bool wr, .bool bi, .int .i64 (q : Int), .int .i64 (le : Int), .int .i64 (mo : Int), .bool co, .bool to] 81 (0, 0))) := (Below.refl _ _).alloc (Nat.le_refl _) _
  have B0 := Lib.hid b0
  clear b0
  cases co with
  | false =>
    go_enter Try.func72, Try.ntmps72
    go_wp2_with fail
    go_ret
    exact ⟨rfl, B0.out⟩
  | true =>
    go_enter Try.func72, Try.ntmps72
    go_wp2_with fail
    go_ret
    exact ⟨rfl, B0.out⟩
theorem allB_take (V : List Nat) (k : Nat) (hk : k < V.length) : allB (V.take (k + 1)) = (allB (V.take k) && decide (V.getD k 0 ≤ 1)) := by
  rw [List.take_succ_eq_append_getElem hk]
  unfold allB
  rw [List.all_append]
  simp [List.getD, List.getElem?_eq_getElem hk]
theorem allB_false {V : List Nat} {k : Nat} (hk : k < V.length) (h : ¬ V.getD k 0 ≤ 1) : allB V = false := by
  unfold allB
  rw [List.all_eq_false]
  refine ⟨V[k], List.getElem_mem hk, ?_⟩
  simpa [List.getD, List.getElem?_eq_getElem hk] using h
theorem Wds.row {W : World} {a : Option Addr} {len : Nat} {L : List Nat} (h : Wds W a len L) : ∀ k, k < len → ∃ b off, a = some ⟨b, off, none⟩ ∧ W.cell? ⟨b, off + k, none⟩ = some (.int .u16 ((L.getD k 0 : Nat) : Int)) := by
  intro k hk
  obtain ⟨b, off, ha, _, hc⟩ := h.pos (by omega)
  exact ⟨b, off, ha, hc k hk⟩
set_option maxRecDepth 100000 in
set_option maxHeartbeats 2000000 in
theorem allbits_any (a : Option Addr) (n c : Nat) (V : List Nat) (w : World) (h : Wds w a n V) : Calls Try.prog 73 #[.slice a n c] w fun e w' => e = .returned (.bool (allB V)) ∧ w' = w := by
  have H := Lib.hid h
  have hln := h.ln
  have hle := h.le
  unfold maxLen at hle
  clear h
  go_enter Try.func73, Try.ntmps73
  go_wp2_with fail
  go_loop [7] (fun i => ∃ k : Nat, k ≤ n ∧ i = .int .i64 k ∧ allB (V.take k) = true) (fun i => n - (intOf i).toNat)
  case atStart => exact ⟨0, Nat.zero_le _, rfl, rfl⟩
  case round =>
    obtain ⟨k, hk, rfl, hz⟩ := hrel
    by_cases hkn : k < n
    · obtain ⟨b, off, rfl, hc⟩ := H.out.row k hkn
      have ht := allB_take V k (by omega)
      have hF := allB_false (V := V) (k := k) (by omega)
      rw [hz, Bool.true_and] at ht
      generalize V.getD k 0 = v at hc ht hF
      have HT := Lib.hid ht
      have HF := Lib.hid hF
      clear hz ht hF
      have d0 : (k : Int) < (n : Int) := by omega
      by_cases hv : v ≤ 1
      · have d1 : decide ((1 : Int) < (v : Int)) = false := by simp; omega
        go_wp2_with fail
        go_round
        case rel => exact ⟨k + 1, by omega, by go_num, by rw [HT.out]; simpa using hv⟩
        case measure => simp [intOf]; omega
      · have d1 : decide ((1 : Int) < (v : Int)) = true := by simp; omega
        go_wp2_with fail
        go_ret
        exact ⟨by rw [HF.out hv]; rfl, rfl⟩
    · have hk' : k = n := by omega
      subst hk'
      rw [List.take_of_length_le (by omega)] at hz
      have HZ := Lib.hid hz
      clear hz
      go_wp2_with fail
      go_ret
      exact ⟨by rw [HZ.out]; rfl, rfl⟩
end Go.Proofs.Ytdolgpogjnfpkaa
/- has, fits. -/
namespace Go.Proofs.Ytdolgpogjnfpkaa
set_option linter.unusedVariables false
open Go.ChangeShapes Go.WideShapes Go.ChangeAt Go.RowKit

def rv (r : Rq) : Value := .agg #[.int .i64 r.fc, .int .i64 r.ad, .int .i64 r.q, .slice r.vs r.vn r.vc, .int .i64 r.to]
theorem len_lt {r : Rq} {w : World} (h : r.ok w) : r.V.length = r.vn ∧ r.vn ≤ 9223372036854775807 := by
  have h1 := h.arg.row.ln
  have h2 := h.arg.row.le
  unfold maxLen at h2
  exact ⟨h1, h2⟩
set_option maxRecDepth 100000 in
set_option maxHeartbeats 4000000 in
theorem fits_any (f : Fo) (r : Rq) (w : World) (hf : f.small) (hr : r.ok w) (ha : isPl r.ad = true) (ht : isPl r.to = true) (hq : r.q ≤ 2000) (hv : r.V.length ≤ 2000) :
    Calls Try.prog 56 #[fv f, rv r] w fun e w' => e = .returned (.bool (fits f r)) ∧ Below w.heap.size w w' := by
  obtain ⟨rd, wr, bi, q, le, mo, co, to⟩ := f
  obtain ⟨hl, hl2⟩ := len_lt hr
  unfold isPl at ha ht
  simp only [Bool.and_eq_true, decide_eq_true_eq] at ha ht
  have y1 := bd_i64 hr.q
  clear hr
  obtain ⟨fc, ad, rq, vs, vn, vc, V, rto⟩ := r
  unfold fits
  simp only at hl ha ht hq hv hl2 y1 ⊢
  rw [hl] at hv ⊢
  clear hl
  obtain ⟨ha1, ha2⟩ := ha
  obtain ⟨ht1, ht2⟩ := ht
  unfold fv rv
  have b0 : Below w.heap.size w ((w.alloc (.cells #[.bool rd, .bool wr, .bool bi, .int .i64 (q : Int), .int .i64 (le : Int), .int .i64 (mo : Int), .bool co, .bool to] 81 (0, 0))).alloc (.cells #[.int .i64 fc, .int .i64 ad, .int .i64 rq, .slice vs vn vc, .int .i64 rto] 32 (0, 0))) := ((Below.refl _ _).alloc (Nat.le_refl _) _).alloc (by simp) _
  have B0 := Lib.hid b0
  clear b0
  have hmx : max rq 1 = if rq < 1 then 1 else rq := by omega
  rw [hmx]
  clear hmx
  by_cases hq1 : rq < 1
  · rw [if_pos hq1]
    cases h1 : decide (ad + 1 ≤ 65536) <;> cases to
    all_goals
      go_enter Try.func56, Try.ntmps56
      go_wp2_with fail
      go_ret
      exact ⟨by simp, B0.out⟩
  · rw [if_neg hq1]
    cases h1 : decide (ad + rq ≤ 65536) <;> cases to
    all_goals
      go_enter Try.func56, Try.ntmps56
      go_wp2_with fail
      go_ret
      exact ⟨by simp, B0.out⟩
end Go.Proofs.Ytdolgpogjnfpkaa
/- words, counted. -/
namespace Go.Proofs.Ytdolgpogjnfpkaa
set_option linter.unusedVariables false
open Go.ChangeShapes Go.WideShapes Go.ChangeAt Go.RowKit

/-- Words in bytes, the high one first. -/
def wb (V : List Nat) : List Nat := V.flatMap fun v => [v / 256, v % 256]
theorem wb_len (V : List Nat) : (wb V).length = 2 * V.length := by
  induction V with
  | nil => rfl
  | cons x V ih => simp only [wb, List.flatMap_cons, List.length_append] at ih ⊢; rw [ih]; simp; omega
theorem wb_app (V U : List Nat) : wb (V ++ U) = wb V ++ wb U := by simp [wb]
theorem wb_one (v : Nat) : wb [v] = [v / 256, v % 256] := by simp [wb]
theorem wb_by {V : List Nat} (h : ∀ v ∈ V, v < 65536) : ∀ b ∈ wb V, b < 256 := by
  intro b hb
  simp only [wb, List.mem_flatMap] at hb
  obtain ⟨v, hv, hb⟩ := hb
  have := h v hv
  simp at hb
  omega
theorem take_snoc' (F : List Nat) (k : Nat) (h : k < F.length) : F.take (k + 1) = F.take k ++ [F.getD k 0] := by
  rw [List.take_succ_eq_append_getElem h]
  simp [List.getD, List.getElem?_eq_getElem h]
/-- Bytes that are at hand: a row that the call owns, or nothing. -/
def OwnV (B : Nat) (w : World) (v : Value) (L : List Nat) : Prop := w.ownsRow B 5 1 v L.length (bv L)
theorem own_keep {B : Nat} {w w' : World} {v : Value} {n : Nat} {L : List Value} (h : w.ownsRow B 5 1 v n L) (hb : Below w.heap.size w w') : w'.ownsRow B 5 1 v n L := by
  obtain ⟨hl, q | ⟨g, cap, cur, hv, hg, hbk, r⟩⟩ := h
  · exact ⟨hl, .inl q⟩
  · exact ⟨hl, .inr ⟨g, cap, cur, hv, hg, (hb.block g (blk_lt hbk)).trans hbk, r⟩⟩
theorem own_form {B : Nat} {w : World} {v : Value} {n : Nat} {L : List Value} (h : w.ownsRow B 5 1 v n L) : ∃ a c, v = .slice a n c := by
  rcases h.2 with ⟨h, h0⟩ | ⟨g, cap, cur, h, _⟩
  · exact ⟨none, 0, by rw [h, h0]⟩
  · exact ⟨_, _, h⟩
def WordsP (B : Nat) (w : World) (L : List Nat) (e : Ending) (w' : World) : Prop := ∃ v', e = .returned v' ∧ OwnV B w' v' L ∧ Below B w w'

/-- Numbers of an int each, that fit 16 bits. -/
structure Ixs (W : World) (a : Option Addr) (len : Nat) (L : List Nat) : Prop where
  ln : L.length = len
  le : len ≤ maxLen
  by' : ∀ b ∈ L, b < 65536
  at' : len = 0 ∨ ∃ b off, a = some ⟨b, off, none⟩ ∧ b < W.heap.size ∧ ∀ i, i < len → W.cell? ⟨b, off + i, none⟩ = some (.int .i64 ((L.getD i 0 : Nat) : Int))
theorem Ixs.pos {W : World} {a : Option Addr} {len : Nat} {L : List Nat} (h : Ixs W a len L) (hp : 0 < len) : ∃ b off, a = some ⟨b, off, none⟩ ∧ b < W.heap.size ∧ ∀ i, i < len → W.cell? ⟨b, off + i, none⟩ = some (.int .i64 ((L.getD i 0 : Nat) : Int)) := by
  rcases h.at' with z | z
  · omega
  · exact z
theorem ixs_one {W : World} {g : Nat} {t : TypeId} {m : Nat × Nat} (x : Nat) (hx : x < 65536) (h : W.heap[g]? = some (.cells #[.int .i64 (x : Int)] t m)) : Ixs W (some ⟨g, 0, none⟩) 1 [x] := by
  refine ⟨rfl, by unfold maxLen; omega, by simpa using hx, .inr ⟨g, 0, rfl, blk_lt h, fun i hi => ?_⟩⟩
  obtain rfl : i = 0 := by omega
  simp [World.cell?, h]
theorem ixs_two {W : World} {g : Nat} {t : TypeId} {m : Nat × Nat} (x y : Nat) (hx : x < 65536) (hy : y < 65536) (h : W.heap[g]? = some (.cells #[.int .i64 (x : Int), .int .i64 (y : Int)] t m)) : Ixs W (some ⟨g, 0, none⟩) 2 [x, y] := by
  refine ⟨rfl, by unfold maxLen; omega, by simp [hx, hy], .inr ⟨g, 0, rfl, blk_lt h, fun i hi => ?_⟩⟩
  rcases (by omega : i = 0 ∨ i = 1) with rfl | rfl <;> simp [World.cell?, h]
set_option maxRecDepth 100000 in
set_option maxHeartbeats 4000000 in
theorem words16_any (B : Nat) (v : Value) (L : List Nat) (a : Option Addr) (n c : Nat) (V : List Nat) (w : World) (hB : B ≤ w.heap.size) (ho : OwnV B w v L) (h : Wds w a n V) (hlow : ∀ b off, a = some ⟨b, off, none⟩ → 0 < n → b < w.heap.size ∧ ∀ b', v.ownBlock = some b' → b ≠ b') (hL : L.length ≤ 10000) (hn : n ≤ 10000) :
    Calls Try.prog 77 #[v, .slice a n c] w (WordsP B w (L ++ wb V)) := by
  have H := Lib.hid h
  have HO := Lib.hid ho
  have HLo := Lib.hid hlow
  have hln := h.ln
  obtain ⟨va, vc, rfl⟩ := own_form ho
  obtain ⟨ti, hi, hz0, hz1, hz2⟩ := info_parts info5
  clear h ho hlow
  go_enter Try.func77, Try.ntmps77
  go_wp2_with fail
  go_loopw [0, 9] (fun v iv wr => ∃ k : Nat, k ≤ n ∧ iv = .int .i64 k ∧ OwnV B wr v (L ++ wb (V.take k)) ∧ Below B w wr ∧ (∀ i, i < n → ∀ b off, a = some ⟨b, off, none⟩ → wr.cell? ⟨b, off + i, none⟩ = some (.int .u16 ((V.getD i 0 : Nat) : Int)) ∧ b < wr.heap.size ∧ ∀ b', v.ownBlock = some b' → b ≠ b')) (fun _ iv _ => n - (intOf iv).toNat)
  case atStart =>
    refine ⟨0, Nat.zero_le _, rfl, by simpa [wb] using HO.out, Below.refl _ _, fun i hi b off e => ?_⟩
    obtain ⟨b', off', e', _, hc⟩ := H.out.pos (by omega)
    rw [e] at e'
    simp only [Option.some.injEq, Addr.mk.injEq, and_true] at e'
    obtain ⟨rfl, rfl⟩ := e'
    obtain ⟨q1, q2⟩ := HLo.out b off e (by omega)
    exact ⟨hc i hi, q1, q2⟩
  case round =>
    obtain ⟨wo, rfl⟩ : ∃ wo : World, wo = wr := ⟨_, rfl⟩
    obtain ⟨k, hk, rfl, hO, hb, hcc⟩ := hrel
    obtain ⟨wa, wc, rfl⟩ := own_form hO
    by_cases hkn : k < n
    · obtain ⟨b, off, rfl, hbl, hc⟩ := H.out.pos (by omega)
      obtain ⟨hc0, hbo, hbne⟩ := hcc k hkn b off rfl
      have ht := take_snoc' V k (by omega)
      have hv := wgetD_lt H.out.by' k
      generalize V.getD k 0 = v at hc0 ht hv
      have hwl := wb_len (V.take k)
      have htl : (V.take k).length = k := by rw [List.length_take]; omega
      have HT := Lib.hid ht
      have HO2 := Lib.hid hO
      have HBE := Lib.hid hb
      have sw := hb.size
      have d0 : (k : Int) < (n : Int) := by omega
      have hlen : (L ++ wb (V.take k)).length ≤ 40000 := by rw [List.length_append, hwl, htl]; omega
      have HLEN := Lib.hid hlen
      clear ht hO hb hc hwl htl hlen
      generalize hM : L ++ wb (V.take k) = M at *
      have HM := Lib.hid hM
      obtain ⟨m, hm⟩ : ∃ m, m = M.length := ⟨_, rfl⟩
      have Hm := Lib.hid hm
      have hO3 : wo.ownsRow B 5 1 (.slice wa M.length wc) M.length (bv M) := HO2.out
      rw [← hm] at hO3 hcc ⊢
      have HCC := Lib.hid hcc
      clear hcc
      have HO3 := Lib.hid hO3
      clear hM hm hO3
      go_wp2_with (at_builtin; refine wpList_append_bys rfl (.tmp 13) (.tmp 19) rfl B _ ?hB _ m M rfl ?own (some ⟨wo.heap.size, 0, none⟩) 2 2 [v / 256, v % 256] rfl ?hby ?nil ?le ?_)
      case hB => simp; omega
      case own => exact own_keep (w' := wo.alloc (.cells #[.int .u8 ((v / 256 : Nat) : Int), .int .u8 ((v % 256 : Nat) : Int)] 5 (0, 0))) HO3.out ((Below.refl _ _).alloc (Nat.le_refl _) _)
      case hby =>
        refine bys_block [v / 256, v % 256] (by simp [maxLen]) ?_ ?_ (t := 5) (m := (0, 0))
        · intro b hb
          simp at hb
          omega
        · rw [heap_alloc_new]; simp [bv]
      case nil => intro e; cases e
      case le => have := HLEN.out; have := Hm.out; omega
      intro v' w' ho' hg' _ hob
      have hbA : Below B wo w' := ((Below.refl B wo).alloc (Nat.le_trans hB sw) _).grown hg' (by simp; omega) (fun q hq => by
        have := (own_keep (w' := wo.alloc (.cells #[.int .u8 ((v / 256 : Nat) : Int), .int .u8 ((v % 256 : Nat) : Int)] 5 (0, 0))) HO3.out ((Below.refl _ _).alloc (Nat.le_refl _) _)).lt q hq
        exact this.1)
      have hO5 : OwnV B w' v' (L ++ wb (V.take (k + 1))) := by
        rw [HT.out, wb_app, wb_one, ← List.append_assoc, HM.out]
        have e : (M ++ [v / 256, v % 256]).length = m + 2 := by rw [List.length_append, Hm.out]; rfl
        unfold OwnV
        rw [e]
        exact ho'
      have hcc' : ∀ i, i < n → ∀ b2 off2, some (⟨b, off, none⟩ : Addr) = some ⟨b2, off2, none⟩ → w'.cell? ⟨b2, off2 + i, none⟩ = some (.int .u16 ((V.getD i 0 : Nat) : Int)) ∧ b2 < w'.heap.size ∧ ∀ b', v'.ownBlock = some b' → b2 ≠ b' := by
        intro i hi b2 off2 e
        obtain ⟨q1, q2, q3⟩ := HCC.out i hi b2 off2 e
        refine ⟨?_, Nat.lt_of_lt_of_le q2 hbA.size, fun b' hb' => ?_⟩
        · rw [← q1]
          refine World.cell?_of_block ((hg'.block b2 (by simp; omega) (fun e2 => q3 b2 e2.symm rfl)).trans ?_)
          exact heap_alloc_old _ _ q2
        · rcases hob with hob | hob
          · exact q3 b' (by rw [← hob]; exact hb')
          · rw [hb'] at hob
            simp at hob
            omega
      have O5 := Lib.hid hO5
      have B5 := Lib.hid (HBE.out.trans hbA)
      have C5 := Lib.hid hcc'
      clear hO5 hbA ho' hg' hob hcc' HO2 HO3 HCC
      go_wp2_with fail
      go_roundw
      case rel => exact ⟨k + 1, by omega, by go_num, O5.out, B5.out, C5.out⟩
      case measure => simp [intOf]; omega
    · have hk' : k = n := by omega
      subst hk'
      rw [List.take_of_length_le (by omega)] at hO
      have HF : Hid (WordsP B w (L ++ wb V) (.returned (.slice wa (L ++ wb (V.take k)).length wc)) wo) := Lib.hid (by
        refine ⟨_, rfl, ?_, hb⟩
        rw [List.take_of_length_le (by omega)]
        exact hO)
      clear hO hb hcc
      go_wp2_with fail
      go_ret
      exact HF.out
set_option maxRecDepth 100000 in
set_option maxHeartbeats 4000000 in
theorem words_any (B : Nat) (v : Value) (L : List Nat) (a : Option Addr) (n c : Nat) (V : List Nat) (w : World) (hB : B ≤ w.heap.size) (ho : OwnV B w v L) (h : Ixs w a n V) (hlow : ∀ b off, a = some ⟨b, off, none⟩ → 0 < n → b < w.heap.size ∧ ∀ b', v.ownBlock = some b' → b ≠ b') (hL : L.length ≤ 10000) (hn : n ≤ 10000) :
    Calls Try.prog 74 #[v, .slice a n c] w (WordsP B w (L ++ wb V)) := by
  have H := Lib.hid h
  have HO := Lib.hid ho
  have HLo := Lib.hid hlow
  have hln := h.ln
  obtain ⟨va, vc, rfl⟩ := own_form ho
  obtain ⟨ti, hi, hz0, hz1, hz2⟩ := info_parts info5
  clear h ho hlow
  go_enter Try.func74, Try.ntmps74
  go_wp2_with fail
  go_loopw [0, 9] (fun v iv wr => ∃ k : Nat, k ≤ n ∧ iv = .int .i64 k ∧ OwnV B wr v (L ++ wb (V.take k)) ∧ Below B w wr ∧ (∀ i, i < n → ∀ b off, a = some ⟨b, off, none⟩ → wr.cell? ⟨b, off + i, none⟩ = some (.int .i64 ((V.getD i 0 : Nat) : Int)) ∧ b < wr.heap.size ∧ ∀ b', v.ownBlock = some b' → b ≠ b')) (fun _ iv _ => n - (intOf iv).toNat)
  case atStart =>
    refine ⟨0, Nat.zero_le _, rfl, by simpa [wb] using HO.out, Below.refl _ _, fun i hi b off e => ?_⟩
    obtain ⟨b', off', e', _, hc⟩ := H.out.pos (by omega)
    rw [e] at e'
    simp only [Option.some.injEq, Addr.mk.injEq, and_true] at e'
    obtain ⟨rfl, rfl⟩ := e'
    obtain ⟨q1, q2⟩ := HLo.out b off e (by omega)
    exact ⟨hc i hi, q1, q2⟩
  case round =>
    obtain ⟨wo, rfl⟩ : ∃ wo : World, wo = wr := ⟨_, rfl⟩
    obtain ⟨k, hk, rfl, hO, hb, hcc⟩ := hrel
    obtain ⟨wa, wc, rfl⟩ := own_form hO
    by_cases hkn : k < n
    · obtain ⟨b, off, rfl, hbl, hc⟩ := H.out.pos (by omega)
      obtain ⟨hc0, hbo, hbne⟩ := hcc k hkn b off rfl
      have ht := take_snoc' V k (by omega)
      have hv := wgetD_lt H.out.by' k
      generalize V.getD k 0 = v at hc0 ht hv
      have hwl := wb_len (V.take k)
      have htl : (V.take k).length = k := by rw [List.length_take]; omega
      have HT := Lib.hid ht
      have HO2 := Lib.hid hO
      have HBE := Lib.hid hb
      have sw := hb.size
      have d0 : (k : Int) < (n : Int) := by omega
      have hlen : (L ++ wb (V.take k)).length ≤ 40000 := by rw [List.length_append, hwl, htl]; omega
      have HLEN := Lib.hid hlen
      clear ht hO hb hc hwl htl hlen
      generalize hM : L ++ wb (V.take k) = M at *
      have HM := Lib.hid hM
      obtain ⟨m, hm⟩ : ∃ m, m = M.length := ⟨_, rfl⟩
      have Hm := Lib.hid hm
      have hO3 : wo.ownsRow B 5 1 (.slice wa M.length wc) M.length (bv M) := HO2.out
      rw [← hm] at hO3 hcc ⊢
      have HCC := Lib.hid hcc
      clear hcc
      have HO3 := Lib.hid hO3
      clear hM hm hO3
      go_wp2_with (at_builtin; refine wpList_append_bys rfl (.tmp 13) (.tmp 19) rfl B _ ?hB _ m M rfl ?own (some ⟨wo.heap.size, 0, none⟩) 2 2 [v / 256, v % 256] rfl ?hby ?nil ?le ?_)
      case hB => simp; omega
      case own => exact own_keep (w' := wo.alloc (.cells #[.int .u8 ((v / 256 : Nat) : Int), .int .u8 ((v % 256 : Nat) : Int)] 5 (0, 0))) HO3.out ((Below.refl _ _).alloc (Nat.le_refl _) _)
      case hby =>
        refine bys_block [v / 256, v % 256] (by simp [maxLen]) ?_ ?_ (t := 5) (m := (0, 0))
        · intro b hb
          simp at hb
          omega
        · rw [heap_alloc_new]; simp [bv]
      case nil => intro e; cases e
      case le => have := HLEN.out; have := Hm.out; omega
      intro v' w' ho' hg' _ hob
      have hbA : Below B wo w' := ((Below.refl B wo).alloc (Nat.le_trans hB sw) _).grown hg' (by simp; omega) (fun q hq => by
        have := (own_keep (w' := wo.alloc (.cells #[.int .u8 ((v / 256 : Nat) : Int), .int .u8 ((v % 256 : Nat) : Int)] 5 (0, 0))) HO3.out ((Below.refl _ _).alloc (Nat.le_refl _) _)).lt q hq
        exact this.1)
      have hO5 : OwnV B w' v' (L ++ wb (V.take (k + 1))) := by
        rw [HT.out, wb_app, wb_one, ← List.append_assoc, HM.out]
        have e : (M ++ [v / 256, v % 256]).length = m + 2 := by rw [List.length_append, Hm.out]; rfl
        unfold OwnV
        rw [e]
        exact ho'
      have hcc' : ∀ i, i < n → ∀ b2 off2, some (⟨b, off, none⟩ : Addr) = some ⟨b2, off2, none⟩ → w'.cell? ⟨b2, off2 + i, none⟩ = some (.int .i64 ((V.getD i 0 : Nat) : Int)) ∧ b2 < w'.heap.size ∧ ∀ b', v'.ownBlock = some b' → b2 ≠ b' := by
        intro i hi b2 off2 e
        obtain ⟨q1, q2, q3⟩ := HCC.out i hi b2 off2 e
        refine ⟨?_, Nat.lt_of_lt_of_le q2 hbA.size, fun b' hb' => ?_⟩
        · rw [← q1]
          refine World.cell?_of_block ((hg'.block b2 (by simp; omega) (fun e2 => q3 b2 e2.symm rfl)).trans ?_)
          exact heap_alloc_old _ _ q2
        · rcases hob with hob | hob
          · exact q3 b' (by rw [← hob]; exact hb')
          · rw [hb'] at hob
            simp at hob
            omega
      have O5 := Lib.hid hO5
      have B5 := Lib.hid (HBE.out.trans hbA)
      have C5 := Lib.hid hcc'
      clear hO5 hbA ho' hg' hob hcc' HO2 HO3 HCC
      go_wp2_with fail
      go_roundw
      case rel => exact ⟨k + 1, by omega, by go_num, O5.out, B5.out, C5.out⟩
      case measure => simp [intOf]; omega
    · have hk' : k = n := by omega
      subst hk'
      rw [List.take_of_length_le (by omega)] at hO
      have HF : Hid (WordsP B w (L ++ wb V) (.returned (.slice wa (L ++ wb (V.take k)).length wc)) wo) := Lib.hid (by
        refine ⟨_, rfl, ?_, hb⟩
        rw [List.take_of_length_le (by omega)]
        exact hO)
      clear hO hb hcc
      go_wp2_with fail
      go_ret
      exact HF.out
end Go.Proofs.Ytdolgpogjnfpkaa
/- Bits in bytes: plain data; counted. -/
namespace Go.Proofs.Ytdolgpogjnfpkaa
set_option linter.unusedVariables false
open Go.ChangeShapes Go.WideShapes Go.ChangeAt Go.RowKit

def bit (v : Nat) : Nat := if v = 0 then 0 else 1
theorem bit_le (v : Nat) : bit v ≤ 1 := by unfold bit; split <;> omega
/-- Bits, the lowest first, in a number. -/
def val : List Nat → Nat
  | [] => 0
  | v :: r => bit v + 2 * val r
theorem val_lt (A : List Nat) : val A < 2 ^ A.length := by
  induction A with
  | nil => decide
  | cons v A ih => have := bit_le v; simp only [val, List.length_cons, Nat.pow_succ]; omega
theorem val_snoc (A : List Nat) (v : Nat) : val (A ++ [v]) = val A + 2 ^ A.length * bit v := by
  induction A with
  | nil => simp [val]
  | cons x A ih =>
    have e : 2 ^ A.length * 2 * bit v = 2 * (2 ^ A.length * bit v) := by rw [Nat.mul_comm _ 2, Nat.mul_assoc]
    simp only [List.cons_append, val, ih, List.length_cons, Nat.pow_succ, Nat.mul_add, e]; omega
theorem val_bit (A : List Nat) (t : Nat) : val A / 2 ^ t % 2 = bit (A.getD t 0) := by
  induction A generalizing t with
  | nil => simp [val, bit]
  | cons v A ih =>
    have hv := bit_le v
    cases t with
    | zero => simp only [val, Nat.pow_zero, Nat.div_one]; simp [List.getD]; omega
    | succ t =>
      simp only [val, List.getD_cons_succ]
      rw [← ih t, Nat.pow_succ, Nat.mul_comm (2 ^ t) 2, ← Nat.div_div_eq_div_mul]
      congr 2
      omega
def byteAt (V : List Nat) (j : Nat) : Nat := val ((V.drop (8 * j)).take 8)
theorem byteAt_lt (V : List Nat) (j : Nat) : byteAt V j < 256 := by
  have h1 := val_lt ((V.drop (8 * j)).take 8)
  have h2 : ((V.drop (8 * j)).take 8).length ≤ 8 := List.length_take_le _ _
  have h3 : 2 ^ ((V.drop (8 * j)).take 8).length ≤ 2 ^ 8 := Nat.pow_le_pow_right (by omega) h2
  unfold byteAt; omega
theorem byteAt_out (V : List Nat) (j : Nat) (h : V.length ≤ 8 * j) : byteAt V j = 0 := by
  unfold byteAt; rw [List.drop_of_length_le h]; rfl
def bits (V : List Nat) : List Nat := (List.range ((V.length + 7) / 8)).map (byteAt V)
theorem bits_len (V : List Nat) : (bits V).length = (V.length + 7) / 8 := by simp [bits]
theorem bits_by (V : List Nat) : ∀ b ∈ bits V, b < 256 := by
  intro b hb; simp [bits] at hb; obtain ⟨j, _, rfl⟩ := hb; exact byteAt_lt V j
def bt (L : List Nat) (i : Nat) : Nat := L.getD (i / 8) 0 / 2 ^ (i % 8) % 2
def unb (L : List Nat) (n : Nat) : List Nat := (List.range n).map (bt L)
theorem unb_len (L : List Nat) (n : Nat) : (unb L n).length = n := by simp [unb]
theorem bt_le (L : List Nat) (i : Nat) : bt L i ≤ 1 := by unfold bt; omega
theorem unb_by (L : List Nat) (n : Nat) : ∀ v ∈ unb L n, v ≤ 1 := by
  intro v hv; simp [unb] at hv; obtain ⟨i, _, rfl⟩ := hv; exact bt_le L i
theorem bt_bits (V : List Nat) (i : Nat) (hi : i < V.length) : bt (bits V) i = bit (V.getD i 0) := by
  unfold bt
  have hj : i / 8 < (V.length + 7) / 8 := by omega
  have e : (bits V).getD (i / 8) 0 = byteAt V (i / 8) := by simp [bits, List.getD, List.getElem?_map, List.getElem?_range hj]
  rw [e, byteAt, val_bit]
  congr 1
  simp only [List.getD]
  rw [List.getElem?_take_of_lt (by omega), List.getElem?_drop, show 8 * (i / 8) + i % 8 = i by omega]
theorem val_byte : ∀ x, x < 256 → val ((List.range 8).map fun t => x / 2 ^ t % 2) = x := by decide +kernel
theorem bits_unb (L : List Nat) (h : ∀ b ∈ L, b < 256) : bits (unb L (8 * L.length)) = L := by
  apply List.ext_getElem
  · rw [bits_len, unb_len]; omega
  · intro j h1 h2
    have e : (bits (unb L (8 * L.length)))[j] = byteAt (unb L (8 * L.length)) j := by simp [bits]
    rw [e]
    unfold byteAt
    have hl : ((unb L (8 * L.length)).drop (8 * j)).take 8 = (List.range 8).map fun t => L[j] / 2 ^ t % 2 := by
      apply List.ext_getElem
      · rw [List.length_take, List.length_drop, unb_len]; simp; omega
      · intro t h3 h4
        have h8 : t < 8 := by simpa using h4
        simp [unb, bt]
        rw [show (8 * j + t) / 8 = j by omega, Nat.mod_eq_of_lt h8, List.getElem?_eq_getElem h2]
        rfl
    rw [hl]
    exact val_byte _ (h _ (List.getElem_mem h2))
/-- One value more. -/
theorem byteAt_snoc (V : List Nat) (k : Nat) (hk : k < V.length) (j : Nat) : byteAt (V.take (k + 1)) j = if j = k / 8 then byteAt (V.take k) j + 2 ^ (k % 8) * bit (V.getD k 0) else byteAt (V.take k) j := by
  have ht := take_snoc' V k hk
  have hl : (V.take k).length = k := by rw [List.length_take]; omega
  unfold byteAt
  rw [ht]
  by_cases h1 : 8 * j ≤ k
  · rw [List.drop_append_of_le_length (by omega)]
    have hd : ((V.take k).drop (8 * j)).length = k - 8 * j := by rw [List.length_drop, hl]
    by_cases h2 : k - 8 * j < 8
    · rw [if_pos (by omega), List.take_of_length_le (by rw [List.length_append, hd]; simp; omega), val_snoc, hd, List.take_of_length_le (l := (V.take k).drop (8 * j)) (by rw [hd]; omega), show k - 8 * j = k % 8 by omega]
    · rw [if_neg (by omega), List.take_append_of_le_length (by rw [hd]; omega)]
  · rw [if_neg (by omega), List.drop_of_length_le (by rw [List.length_append, hl]; simp; omega), List.drop_of_length_le (by omega)]
theorem byteAt_lo (V : List Nat) (k : Nat) (hk : k ≤ V.length) : byteAt (V.take k) (k / 8) < 2 ^ (k % 8) := by
  have hl : (V.take k).length = k := by rw [List.length_take]; omega
  unfold byteAt
  have hd : ((V.take k).drop (8 * (k / 8))).length = k % 8 := by rw [List.length_drop, hl]; omega
  rw [List.take_of_length_le (by rw [hd]; omega), ← hd]
  exact val_lt _
theorem or_bit (x t : Nat) (ht : t < 8) (hx : x < 2 ^ t) : x ||| 2 ^ t = x + 2 ^ t := by
  have := Nat.two_pow_add_eq_or_of_lt (i := t) (b := x) hx 1
  rw [Nat.mul_one] at this
  rw [Nat.or_comm, ← this, Nat.add_comm]

def CountedP (B : Nat) (w : World) (L : List Nat) (e : Ending) (w' : World) : Prop := ∃ v', e = .returned v' ∧ OwnV B w' v' L ∧ Below B w w'
set_option maxRecDepth 100000 in
set_option maxHeartbeats 4000000 in
theorem counted_any (B : Nat) (v : Value) (L : List Nat) (a : Option Addr) (n c : Nat) (M : List Nat) (w : World) (hB : B ≤ w.heap.size) (ho : OwnV B w v L) (h : Bys w a n M) (hnil : a = none → c = 0) (hne : ∀ b off, a = some ⟨b, off, none⟩ → 0 < n → ∀ b', v.ownBlock = some b' → b ≠ b') (hL : L.length ≤ 10000) (hn : n ≤ 255) :
    Calls Try.prog 75 #[v, .slice a n c] w (CountedP B w (L ++ n :: M)) := by
  have H := Lib.hid h
  have HN := Lib.hid hnil
  have HNE := Lib.hid hne
  obtain ⟨va, vc, rfl⟩ := own_form ho
  obtain ⟨m, hm⟩ : ∃ m, m = L.length := ⟨_, rfl⟩
  have ho' : w.ownsRow B 5 1 (.slice va L.length vc) L.length (bv L) := ho
  unfold OwnV at ho
  rw [← hm] at ho' hne hL ⊢
  have HO := Lib.hid ho'
  have HNE := Lib.hid hne
  have Hm := Lib.hid hm
  clear h ho hnil hne ho' hm
  obtain ⟨ti, hi, hz0, hz1, hz2⟩ := info_parts info5
  go_enter Try.func75, Try.ntmps75
  go_wp2_with (at_builtin; refine wpList_append_bys rfl (.tmp 5) (.tmp 9) rfl B _ ?hB _ m L rfl ?own (some ⟨w.heap.size, 0, none⟩) 1 1 [n] rfl ?hby ?nil ?le ?_)
  case hB => simp; omega
  case own => exact own_keep (w' := w.alloc (.cells #[.int .u8 (n : Int)] 5 (0, 0))) HO.out ((Below.refl _ _).alloc (Nat.le_refl _) _)
  case hby =>
    refine bys_block [n] (by simp [maxLen]) ?_ ?_ (t := 5) (m := (0, 0))
    · intro b hb
      simp at hb
      omega
    · rw [heap_alloc_new]; simp [bv]
  case nil => intro e; cases e
  case le => omega
  intro v1 w1 ho1 hg1 _ hob
  have hb1 : Below B w w1 := ((Below.refl B w).alloc hB _).grown hg1 (by simp; omega) (fun q hq => ((own_keep (w' := w.alloc (.cells #[.int .u8 (n : Int)] 5 (0, 0))) HO.out ((Below.refl _ _).alloc (Nat.le_refl _) _)).lt q hq).1)
  have hM1 : Bys w1 a n M := by
    refine ⟨H.out.ln, H.out.le, H.out.by', ?_⟩
    rcases H.out.at' with z | ⟨b, off, e, hlt, hc⟩
    · exact .inl z
    · by_cases h0 : n = 0
      · exact .inl h0
      · refine .inr ⟨b, off, e, Nat.lt_of_lt_of_le hlt hb1.size, fun i hi => ?_⟩
        rw [← hc i hi]
        refine World.cell?_of_block ((hg1.block b (by simp; omega) (fun e2 => HNE.out b off e (by omega) b e2.symm rfl)).trans ?_)
        exact heap_alloc_old _ _ hlt
  have O1 := Lib.hid ho1
  have B1 := Lib.hid hb1
  have M1 := Lib.hid hM1
  have hs1 := hb1.size
  clear ho1 hg1 hob hb1 hM1
  go_wp2_with (at_builtin; refine wpList_append_bys rfl (.tmp 10) (.tmp 11) rfl B _ ?hB2 _ (m + 1) (L ++ [n]) rfl O1.out a n c M rfl M1.out HN.out ?le2 ?_)
  case hB2 => omega
  case le2 => omega
  intro v2 w2 ho2 hg2 _ _
  have hb2 : Below B w w2 := B1.out.grown hg2 (Nat.le_trans hB hs1) (fun q hq => (O1.out.lt q hq).1)
  have hf : CountedP B w (L ++ n :: M) (.returned v2) w2 := by
    refine ⟨v2, rfl, ?_, hb2⟩
    unfold OwnV
    have e : (L ++ n :: M).length = m + 1 + n := by rw [List.length_append, List.length_cons, H.out.ln, Hm.out]; omega
    rw [e]
    have e2 : L ++ [n] ++ M = L ++ n :: M := by simp
    first | exact ho2 | (rw [← e2]; exact ho2)
  have HF := Lib.hid hf
  clear ho2 hg2 hb2 hf
  go_wp2_with fail
  go_ret
  exact HF.out
end Go.Proofs.Ytdolgpogjnfpkaa
/- Bits. -/
namespace Go.Proofs.Ytdolgpogjnfpkaa
set_option linter.unusedVariables false
open Go.ChangeShapes Go.WideShapes Go.ChangeAt Go.RowKit

def bx (V : List Nat) (m k : Nat) : List Nat := (List.range m).map (byteAt (V.take k))
theorem bx_len (V : List Nat) (m k : Nat) : (bx V m k).length = m := by simp [bx]
theorem bx_at (V : List Nat) (m k j : Nat) (h : j < m) : (bx V m k).getD j 0 = byteAt (V.take k) j := by simp [bx, List.getD, List.getElem?_map, List.getElem?_range h]
theorem bx_zero (V : List Nat) (m : Nat) : bx V m 0 = List.replicate m 0 := by
  apply List.ext_getElem
  · simp [bx]
  · intro i h1 h2
    simp [bx, byteAt, val]
theorem bx_full (V : List Nat) (k : Nat) (h : V.length ≤ k) : bx V ((V.length + 7) / 8) k = bits V := by unfold bx bits; rw [List.take_of_length_le h]
theorem bx_same (V : List Nat) (m k : Nat) (hk : k < V.length) (h0 : V.getD k 0 = 0) : bx V m (k + 1) = bx V m k := by
  unfold bx
  apply List.map_congr_left
  intro j _
  rw [byteAt_snoc V k hk, h0]
  simp [bit]
theorem bx_set (V : List Nat) (m k : Nat) (hk : k < V.length) (hm : k / 8 < m) (h0 : V.getD k 0 ≠ 0) : bx V m (k + 1) = (bx V m k).set (k / 8) (byteAt (V.take k) (k / 8) ||| 2 ^ (k % 8)) := by
  apply List.ext_getElem
  · simp [bx]
  · intro j h1 h2
    rw [List.getElem_set]
    simp only [bx, List.getElem_map, List.getElem_range]
    rw [byteAt_snoc V k hk]
    have hb : bit (V.getD k 0) = 1 := by unfold bit; rw [if_neg h0]
    rw [hb, Nat.mul_one]
    by_cases e : j = k / 8
    · subst e
      rw [if_pos rfl, if_pos rfl, or_bit _ _ (by omega) (byteAt_lo V k (by omega))]
    · rw [if_neg e, if_neg (fun q => e q.symm)]
theorem make_b (n : Nat) (hn : n ≤ 2000000) (w : World) : (Instr.makeSlice 33 (.int .i64 (n : Int)) (.int .i64 (n : Int))).run Try.prog w = .ok (.slice (some ⟨w.heap.size, 0, none⟩) n n) (w.alloc (.cells (bv (List.replicate n 0)).toArray 5 (0, 0))) := by
  obtain ⟨ti, hti, hz0, hz1, hz2⟩ := info_parts info5
  have hr := run_make (P := Try.prog) w 33 5 ti _ Try.underlying33 hti hz0 .i64 .i64 (n : Int) (n : Int) (by omega) (Int.le_refl _) (by rw [hz2]; omega) (by omega)
  rw [hz1] at hr
  have e : (n : Int).toNat = n := by simp
  rw [e] at hr
  rw [hr]
  congr 2
  have := made_zero n
  rw [← this]
theorem or_u8 (x y : Nat) (hx : x < 256) (hy : y < 256) : Go.bits .or .u8 (x : Int) (y : Int) = ((x ||| y : Nat) : Int) := by
  have hxy : x ||| y < 256 := Nat.or_lt_two_pow (n := 8) hx hy
  have g1 : (BitVec.ofInt 8 (x : Int)).toNat = x := by
    rw [BitVec.ofInt_natCast, BitVec.toNat_ofNat]; exact Nat.mod_eq_of_lt (by omega)
  have g2 : (BitVec.ofInt 8 (y : Int)).toNat = y := by
    rw [BitVec.ofInt_natCast, BitVec.toNat_ofNat]; exact Nat.mod_eq_of_lt (by omega)
  show IntKind.u8.wrap ((BitVec.ofInt 8 (x : Int) ||| BitVec.ofInt 8 (y : Int)).toNat : Int) = _
  rw [BitVec.toNat_or, g1, g2]
  simp [IntKind.wrap, IntKind.bits, IntKind.signed]
  omega
theorem or_pow (x t : Nat) (hx : x < 256) (ht : t < 8) : Go.bits .or .u8 (x : Int) ((2 : Int) ^ t % 256) = ((x ||| 2 ^ t : Nat) : Int) := by
  have h : 2 ^ t < 256 := by have := Nat.pow_lt_pow_right (a := 2) (m := t) (n := 8) (by omega) ht; simpa using this
  have e : (2 : Int) ^ t % 256 = ((2 ^ t : Nat) : Int) := by
    have : ((2 ^ t : Nat) : Int) = (2 : Int) ^ t := by simp
    rw [← this]
    exact Int.emod_eq_of_lt (Int.natCast_nonneg _) (by have := Int.ofNat_lt.2 h; simpa using this)
  rw [e]
  exact or_u8 x (2 ^ t) hx h
def BitsP (w : World) (V : List Nat) (e : Ending) (w' : World) : Prop := ∃ g, e = .returned (.slice (some ⟨g, 0, none⟩) (bits V).length (bits V).length) ∧ w'.heap[g]? = some (.cells (bv (bits V)).toArray 5 (0, 0)) ∧ w.heap.size ≤ g ∧ Below w.heap.size w w'
theorem bv_set (L : List Nat) (i x : Nat) : (bv L).set i (.int .u8 (x : Int)) = bv (L.set i x) := by simp [bv, List.map_set]
theorem low_of {A B : World} {k : Nat} {o : Obj} (h : Below A.heap.size A B) (hk : A.heap[k]? = some o) : B.heap[k]? = some o := (h.block k (blk_lt hk)).trans hk
set_option maxRecDepth 100000 in
set_option maxHeartbeats 4000000 in
theorem bits_any (a : Option Addr) (n c : Nat) (V : List Nat) (w : World) (h : Wds w a n V) (hn : n ≤ 100000) : Calls Try.prog 76 #[.slice a n c] w (BitsP w V) := by
  have H := Lib.hid h
  have hln := h.ln
  obtain ⟨m, hm⟩ : ∃ m, m = (n + 7) / 8 := ⟨_, rfl⟩
  have e1 : ((n : Int) + 7) / 8 = (m : Int) := by omega
  have e1' : ((n : Int) + 7).tdiv 8 = (m : Int) := by rw [Int.tdiv_eq_ediv_of_nonneg (by omega)]; exact e1
  have hmk : (Instr.makeSlice 33 (.int .i64 (((n : Int) + 7) / 8)) (.int .i64 (((n : Int) + 7) / 8))).run Try.prog w = .ok (.slice (some ⟨w.heap.size, 0, none⟩) m m) (w.alloc (.cells (bv (List.replicate m 0)).toArray 5 (0, 0))) := by rw [e1]; exact make_b m (by omega) w
  have h0 : (w.alloc (.cells (bv (List.replicate m 0)).toArray 5 (0, 0))).heap[w.heap.size]? = some (.cells (bv (bx V m 0)).toArray 5 (0, 0)) := by rw [bx_zero]; exact heap_alloc_new w _
  have H0 := Lib.hid h0
  have HM := Lib.hid hm
  clear h h0 hm
  go_enter Try.func76, Try.ntmps76
  clear e1 e1'
  go_wp2_with fail
  clear hmk
  go_loopw [13] (fun iv wr => ∃ k : Nat, k ≤ n ∧ iv = .int .i64 k ∧ wr.heap[w.heap.size]? = some (.cells (bv (bx V m k)).toArray 5 (0, 0)) ∧ Below w.heap.size w wr) (fun iv _ => n - (intOf iv).toNat)
  case atStart => exact ⟨0, Nat.zero_le _, rfl, H0.out, (Below.refl _ _).alloc (Nat.le_refl _) _⟩
  case round =>
    obtain ⟨wo, rfl⟩ : ∃ wo : World, wo = wr := ⟨_, rfl⟩
    obtain ⟨k, hk, rfl, hO, hb⟩ := hrel
    by_cases hkn : k < n
    · obtain ⟨b, off, rfl, hbl, hc⟩ := H.out.pos (by omega)
      have hc0 := (hb.cell (p := ⟨b, off + k, none⟩) hbl).trans (hc k hkn)
      have hv := wgetD_lt H.out.by' k
      have hs := bx_same V m k (by omega)
      have ht := bx_set V m k (by omega) (by have := HM.out; omega)
      generalize V.getD k 0 = v at hc0 hv hs ht
      have d0 : (k : Int) < (n : Int) := by omega
      have HO := Lib.hid hO
      have HB := Lib.hid hb
      have HS := Lib.hid hs
      have HT := Lib.hid ht
      clear hO hb hc hs ht
      by_cases hv0 : v = 0
      · have t1 : ((v : Int) != 0) = false := by simp [hv0]
        go_wp2_with fail
        go_roundw
        case rel => exact ⟨k + 1, by omega, by go_num, by rw [HS.out hv0]; exact HO.out, HB.out⟩
        case measure => simp [intOf]; omega
      · have t1 : ((v : Int) != 0) = true := by simp; omega
        have hj : k / 8 < m := by have := HM.out; omega
        have hx := byteAt_lt (V.take k) (k / 8)
        have hbx := bx_at V m k (k / 8) hj
        have hcell : wo.cell? ⟨w.heap.size, k / 8, none⟩ = some (.int .u8 ((byteAt (V.take k) (k / 8) : Nat) : Int)) := by
          have := bv_get (bx V m k) (k / 8) (by rw [bx_len]; exact hj)
          rw [hbx] at this
          simp [World.cell?, HO.out, this]
        have hfr : wo.frozen? ⟨w.heap.size, k / 8, none⟩ = false := by simp [World.frozen?, HO.out]
        have ht2 := HT.out hv0
        generalize byteAt (V.take k) (k / 8) = x at hcell hx ht2
        have HT2 := Lib.hid ht2
        clear ht2 hbx
        have i1 : (k : Int) / 8 < (m : Int) := by omega
        go_wp2_with fail
        go_region
        all_goals
          rw [or_pow x (k % 8) hx (by omega)]
          have hset : (wo.setCell ⟨w.heap.size, k / 8, none⟩ (.int .u8 ((x ||| 2 ^ (k % 8) : Nat) : Int))).heap[w.heap.size]? = some (.cells (bv (bx V m (k + 1))).toArray 5 (0, 0)) := by
            rw [HT2.out, ← bv_set]
            simp [World.setCell, Array.getElem?_modify, HO.out]
          have HSET := Lib.hid hset
          have B1 : Hid (Below w.heap.size w (wo.setCell ⟨w.heap.size, k / 8, none⟩ (.int .u8 ((x ||| 2 ^ (k % 8) : Nat) : Int)))) := Lib.hid (HB.out.setCell (Nat.le_refl _) _)
          clear hset
          generalize (wo.setCell ⟨w.heap.size, k / 8, none⟩ (.int .u8 ((x ||| 2 ^ (k % 8) : Nat) : Int))) = w5 at *
          go_wp2_with fail
          go_roundw
          case rel => exact ⟨k + 1, by omega, by go_num, HSET.out, B1.out.drew⟩
          case measure => simp [intOf]; omega
    · have hk' : k = n := by omega
      subst hk'
      have hf : BitsP w V (.returned (.slice (some ⟨w.heap.size, 0, none⟩) m m)) wo := by
        have e : bx V m k = bits V := by rw [HM.out, ← hln]; exact bx_full V _ (Nat.le_refl _)
        refine ⟨_, by rw [bits_len, hln, HM.out], by rw [← e]; exact hO, Nat.le_refl _, hb⟩
      have HF := Lib.hid hf
      clear hO hb hf
      go_wp2_with fail
      go_ret
      exact HF.out
end Go.Proofs.Ytdolgpogjnfpkaa
/- Unbits. -/
namespace Go.Proofs.Ytdolgpogjnfpkaa
set_option linter.unusedVariables false
open Go.ChangeShapes Go.WideShapes Go.ChangeAt Go.RowKit

theorem wmade_zero (n : Nat) : (madeCells (Value.int .u16 0).cells (n * 1)).toList = wv (List.replicate n 0) := by
  simp [madeCells, Value.cells, wv, Nat.mod_one, List.map_const']
theorem make_w (n : Nat) (hn : n ≤ 2000000) (w : World) : (Instr.makeSlice 30 (.int .i64 (n : Int)) (.int .i64 (n : Int))).run Try.prog w = .ok (.slice (some ⟨w.heap.size, 0, none⟩) n n) (w.alloc (.cells (wv (List.replicate n 0)).toArray 34 (0, 0))) := by
  obtain ⟨ti, hti, hz0, hz1, hz2⟩ := info_parts info34
  have hr := run_make (P := Try.prog) w 30 34 ti _ Try.underlying30 hti hz0 .i64 .i64 (n : Int) (n : Int) (by omega) (Int.le_refl _) (by rw [hz2]; omega) (by omega)
  rw [hz1] at hr
  have e : (n : Int).toNat = n := by simp
  rw [e] at hr
  rw [hr]
  congr 2
  have := wmade_zero n
  rw [← this]
theorem wv_set (L : List Nat) (i x : Nat) : (wv L).set i (.int .u16 (x : Int)) = wv (L.set i x) := by simp [wv, List.map_set]
def ux (L : List Nat) (n k : Nat) : List Nat := (List.range n).map fun i => if i < k then bt L i else 0
theorem ux_len (L : List Nat) (n k : Nat) : (ux L n k).length = n := by simp [ux]
theorem ux_zero (L : List Nat) (n : Nat) : ux L n 0 = List.replicate n 0 := by
  apply List.ext_getElem
  · simp [ux]
  · intro i h1 h2; simp [ux]
theorem ux_set (L : List Nat) (n k : Nat) (hk : k < n) : ux L n (k + 1) = (ux L n k).set k (bt L k) := by
  apply List.ext_getElem
  · simp [ux]
  · intro i h1 h2
    rw [List.getElem_set]
    simp only [ux, List.getElem_map, List.getElem_range]
    by_cases e : k = i
    · subst e; rw [if_pos (by omega), if_pos rfl]
    · rw [if_neg e]
      by_cases h : i < k
      · rw [if_pos (by omega), if_pos h]
      · rw [if_neg (by omega), if_neg h]
theorem ux_full (L : List Nat) (n : Nat) : ux L n (min n (8 * L.length)) = unb L n := by
  unfold ux unb
  apply List.map_congr_left
  intro i hi
  have hi := List.mem_range.1 hi
  by_cases h : i < min n (8 * L.length)
  · rw [if_pos h]
  · rw [if_neg h]
    have : L.getD (i / 8) 0 = 0 := by simp [List.getD, List.getElem?_eq_none (show L.length ≤ i / 8 by omega)]
    unfold bt; rw [this]; simp
theorem and_one (x t : Nat) (hx : x < 256) : IntKind.u16.wrap (Go.bits .and .u8 ((x : Int) / 2 ^ t) 1) = ((x / 2 ^ t % 2 : Nat) : Int) := by
  have e : (x : Int) / 2 ^ t = ((x / 2 ^ t : Nat) : Int) := by simp
  have hy : x / 2 ^ t < 256 := Nat.lt_of_le_of_lt (Nat.div_le_self _ _) hx
  rw [e]
  generalize x / 2 ^ t = y at hy
  have g1 : (BitVec.ofInt 8 (y : Int)).toNat = y := by
    rw [BitVec.ofInt_natCast, BitVec.toNat_ofNat]; exact Nat.mod_eq_of_lt (by omega)
  have g2 : (BitVec.ofInt 8 1).toNat = 1 := by decide
  show IntKind.u16.wrap (IntKind.u8.wrap ((BitVec.ofInt 8 (y : Int) &&& BitVec.ofInt 8 1).toNat : Int)) = _
  rw [BitVec.toNat_and, g1, g2, Nat.and_one_is_mod]
  simp [IntKind.wrap, IntKind.bits, IntKind.signed]
  omega
def UnbP (w : World) (L : List Nat) (e : Ending) (w' : World) : Prop := ∃ g, e = .returned (.slice (some ⟨g, 0, none⟩) L.length L.length) ∧ w'.heap[g]? = some (.cells (wv L).toArray 34 (0, 0)) ∧ w.heap.size ≤ g ∧ Below w.heap.size w w'
theorem unb_no (a : Option Addr) (len c : Nat) (n : Int) (w : World) (hn : n < 0 ∨ 65536 < n) : Calls Try.prog 70 #[.slice a len c, .int .i64 n] w fun e w' => e = .returned (.slice none 0 0) ∧ w' = w := by
  by_cases h : n < 0
  · have d1 : decide (n < 0) = true := by simpa using h
    go_enter Try.func70, Try.ntmps70
    go_wp2_with fail
    go_ret
    exact ⟨rfl, rfl⟩
  · have d1 : decide (n < 0) = false := by simpa using h
    have d2 : decide (65536 < n) = true := by simp; omega
    go_enter Try.func70, Try.ntmps70
    go_wp2_with fail
    go_ret
    exact ⟨rfl, rfl⟩
set_option maxRecDepth 100000 in
set_option maxHeartbeats 4000000 in
theorem unb_any (a : Option Addr) (len c : Nat) (L : List Nat) (n : Nat) (w : World) (h : Bys w a len L) (hl : len ≤ 100000) (hn : n ≤ 65536) : Calls Try.prog 70 #[.slice a len c, .int .i64 (n : Int)] w (UnbP w (unb L n)) := by
  have H := Lib.hid h
  have hln := h.ln
  have hmk := make_w n (by omega)
  have h0 : (w.alloc (.cells (wv (List.replicate n 0)).toArray 34 (0, 0))).heap[w.heap.size]? = some (.cells (wv (ux L n 0)).toArray 34 (0, 0)) := by rw [ux_zero]; exact heap_alloc_new w _
  have H0 := Lib.hid h0
  have d1 : decide ((n : Int) < 0) = false := by simp
  have d2 : decide ((65536 : Int) < (n : Int)) = false := by simp; omega
  by_cases hcs : n ≤ 8 * len
  · have HQ := Lib.hid hcs
    have e1 : (n : Int) ≤ 8 * (len : Int) := by omega
    clear h h0 hcs
    go_enter Try.func70, Try.ntmps70
    go_wp2_with fail
    go_loopw [20] (fun iv wr => ∃ k : Nat, k ≤ n ∧ iv = .int .i64 k ∧ wr.heap[w.heap.size]? = some (.cells (wv (ux L n k)).toArray 34 (0, 0)) ∧ Below w.heap.size w wr) (fun iv _ => n - (intOf iv).toNat)
    case atStart => exact ⟨0, Nat.zero_le _, rfl, H0.out, (Below.refl _ _).alloc (Nat.le_refl _) _⟩
    case round =>
      obtain ⟨wo, rfl⟩ : ∃ wo : World, wo = wr := ⟨_, rfl⟩
      obtain ⟨k, hk, rfl, hO, hb⟩ := hrel
      by_cases hkn : k < n
      · obtain ⟨b, off, rfl, hbl, hc⟩ := H.out.pos (by have := HQ.out; omega)
        have hj : k / 8 < len := by have := HQ.out; omega
        have hkn2 : k < n := by have := HQ.out; omega
        have hc0 := (hb.cell (p := ⟨b, off + k / 8, none⟩) hbl).trans (hc (k / 8) hj)
        have hx := getD_lt H.out.by' (k / 8)
        have ht := ux_set L n k hkn2
        have hbt : bt L k = L.getD (k / 8) 0 / 2 ^ (k % 8) % 2 := rfl
        generalize L.getD (k / 8) 0 = x at hc0 hx hbt
        have d0 : (k : Int) < (n : Int) := by omega
        have i1 : (k : Int) / 8 < (len : Int) := by omega
        have i2 : (k : Int) < (n : Int) := by omega
        have hcell : wo.cell? ⟨w.heap.size, k, none⟩ = some (.int .u16 (((ux L n k).getD k 0 : Nat) : Int)) := by
          have := wv_get (ux L n k) k (by rw [ux_len]; exact hkn2)
          simp [World.cell?, hO, this]
        have hfr : wo.frozen? ⟨w.heap.size, k, none⟩ = false := by simp [World.frozen?, hO]
        have HO := Lib.hid hO
        have HB := Lib.hid hb
        have HT := Lib.hid ht
        have HBT := Lib.hid hbt
        clear hO hb hc ht hbt
        generalize ((ux L n k).getD k 0 : Nat) = y0 at hcell
        go_wp2_with fail
        rw [and_one x (k % 8) hx]
        have hset : (wo.setCell ⟨w.heap.size, k, none⟩ (.int .u16 ((x / 2 ^ (k % 8) % 2 : Nat) : Int))).heap[w.heap.size]? = some (.cells (wv (ux L n (k + 1))).toArray 34 (0, 0)) := by
          rw [HT.out, HBT.out, ← wv_set]
          simp [World.setCell, Array.getElem?_modify, HO.out]
        exact ⟨⟨k + 1, by omega, by go_num, hset, HB.out.setCell (Nat.le_refl _) _⟩, by simp [intOf]; omega⟩
      · have hk' : k = n := by omega
        have hf : UnbP w (unb L n) (.returned (.slice (some ⟨w.heap.size, 0, none⟩) n n)) wo := by
          have e : ux L n k = unb L n := by
            rw [hk', ← ux_full L n, hln]; congr 1; have := HQ.out; omega
          refine ⟨_, by rw [unb_len], by rw [← e]; exact hO, Nat.le_refl _, hb⟩
        have HF := Lib.hid hf
        subst hk'
        clear hO hb hf
        go_wp2_with fail
        go_ret
        exact HF.out
  · obtain ⟨q, hq⟩ : ∃ q, q = 8 * len := ⟨_, rfl⟩
    have HQ : Hid (q = 8 * len ∧ q < n) := Lib.hid ⟨hq, by omega⟩
    have e1 : ¬ (n : Int) ≤ 8 * (len : Int) := by omega
    have E2 : Hid (8 * (len : Int) = (q : Int)) := Lib.hid (by omega)
    clear h h0 hcs hq
    go_enter Try.func70, Try.ntmps70
    go_wp2_with fail
    rw [E2.out]
    clear e1
    go_loopw [20] (fun iv wr => ∃ k : Nat, k ≤ q ∧ iv = .int .i64 k ∧ wr.heap[w.heap.size]? = some (.cells (wv (ux L n k)).toArray 34 (0, 0)) ∧ Below w.heap.size w wr) (fun iv _ => q - (intOf iv).toNat)
    case atStart => exact ⟨0, Nat.zero_le _, rfl, H0.out, (Below.refl _ _).alloc (Nat.le_refl _) _⟩
    case round =>
      obtain ⟨wo, rfl⟩ : ∃ wo : World, wo = wr := ⟨_, rfl⟩
      obtain ⟨k, hk, rfl, hO, hb⟩ := hrel
      by_cases hkn : k < q
      · obtain ⟨b, off, rfl, hbl, hc⟩ := H.out.pos (by have := HQ.out; omega)
        have hj : k / 8 < len := by have := HQ.out; omega
        have hkn2 : k < n := by have := HQ.out; omega
        have hc0 := (hb.cell (p := ⟨b, off + k / 8, none⟩) hbl).trans (hc (k / 8) hj)
        have hx := getD_lt H.out.by' (k / 8)
        have ht := ux_set L n k hkn2
        have hbt : bt L k = L.getD (k / 8) 0 / 2 ^ (k % 8) % 2 := rfl
        generalize L.getD (k / 8) 0 = x at hc0 hx hbt
        have d0 : (k : Int) < (q : Int) := by omega
        have i1 : (k : Int) / 8 < (len : Int) := by omega
        have i2 : (k : Int) < (n : Int) := by omega
        have hcell : wo.cell? ⟨w.heap.size, k, none⟩ = some (.int .u16 (((ux L n k).getD k 0 : Nat) : Int)) := by
          have := wv_get (ux L n k) k (by rw [ux_len]; exact hkn2)
          simp [World.cell?, hO, this]
        have hfr : wo.frozen? ⟨w.heap.size, k, none⟩ = false := by simp [World.frozen?, hO]
        have HO := Lib.hid hO
        have HB := Lib.hid hb
        have HT := Lib.hid ht
        have HBT := Lib.hid hbt
        clear hO hb hc ht hbt
        generalize ((ux L n k).getD k 0 : Nat) = y0 at hcell
        go_wp2_with fail
        rw [and_one x (k % 8) hx]
        have hset : (wo.setCell ⟨w.heap.size, k, none⟩ (.int .u16 ((x / 2 ^ (k % 8) % 2 : Nat) : Int))).heap[w.heap.size]? = some (.cells (wv (ux L n (k + 1))).toArray 34 (0, 0)) := by
          rw [HT.out, HBT.out, ← wv_set]
          simp [World.setCell, Array.getElem?_modify, HO.out]
        exact ⟨⟨k + 1, by omega, by go_num, hset, HB.out.setCell (Nat.le_refl _) _⟩, by simp [intOf]; omega⟩
      · have hk' : k = q := by omega
        have hf : UnbP w (unb L n) (.returned (.slice (some ⟨w.heap.size, 0, none⟩) n n)) wo := by
          have e : ux L n k = unb L n := by
            rw [hk', ← ux_full L n, hln]; congr 1; have := HQ.out; omega
          refine ⟨_, by rw [unb_len], by rw [← e]; exact hO, Nat.le_refl _, hb⟩
        have HF := Lib.hid hf
        subst hk'
        clear hO hb hf
        go_wp2_with fail
        go_ret
        exact HF.out
end Go.Proofs.Ytdolgpogjnfpkaa
