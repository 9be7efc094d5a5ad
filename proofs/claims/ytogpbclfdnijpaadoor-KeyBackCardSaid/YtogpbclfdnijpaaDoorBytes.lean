/- Bytes in memory: that came in, or that the call made. -/
import Derived.Test.YtogpbclfdnijpaaDoorBase
import Derived.Laws.BytesArg
import Derived.Laws.CopyOwn
import Derived.Laws.AppendOwnNone
import Derived.Lib.SmallJoins
import Derived.WalkSmall
import Derived.Maps.AppendAt
namespace Go.Proofs.YtogpbclfdnijpaaDoor
set_option linter.unusedVariables false
open Go.ChangeShapes Go.WideShapes Go.ChangeAt Go.RowKit

def bv (L : List Nat) : List Value := L.map fun n : Nat => Value.int .u8 ((n : Nat) : Int)
theorem bv_len (L : List Nat) : (bv L).length = L.length := by simp [bv]
theorem bv_one (L : List Nat) : ∀ v ∈ bv L, v.oneCell' = true := by
  intro v hv; simp [bv] at hv; obtain ⟨a, _, rfl⟩ := hv; rfl
theorem bv_get (L : List Nat) (i : Nat) (h : i < L.length) : (bv L)[i]? = some (.int .u8 ((L.getD i 0 : Nat) : Int)) := by
  simp [bv, List.getElem?_map, List.getElem?_eq_getElem h, List.getD]
theorem bv_app (L M : List Nat) : bv (L ++ M) = bv L ++ bv M := by simp [bv]
theorem blk_lt {w : World} {r : Nat} {o : Obj} (h : w.heap[r]? = some o) : r < w.heap.size := by
  rcases Nat.lt_or_ge r w.heap.size with h' | h'
  · exact h'
  · simp [Array.getElem?_eq_none h'] at h
theorem addr_add_none (b off n : Nat) : (Addr.mk b off none).add n = ⟨b, off + n, none⟩ := by
  by_cases h : n = 0
  · subst h; simp [Addr.add]
  · simp [Addr.add, h]

/-- Bytes that came in, or that the call owns: L. -/
structure Bys (W : World) (a : Option Addr) (len : Nat) (L : List Nat) : Prop where
  ln : L.length = len
  le : len ≤ maxLen
  by' : ∀ b ∈ L, b < 256
  at' : len = 0 ∨ ∃ b off, a = some ⟨b, off, none⟩ ∧ b < W.heap.size ∧ ∀ i, i < len → W.cell? ⟨b, off + i, none⟩ = some (.int .u8 ((L.getD i 0 : Nat) : Int))

theorem getD_lt {L : List Nat} (h : ∀ b ∈ L, b < 256) (i : Nat) : L.getD i 0 < 256 := by
  simp only [List.getD]
  by_cases hi : i < L.length
  · rw [List.getElem?_eq_getElem hi]; exact h _ (List.getElem_mem hi)
  · rw [List.getElem?_eq_none (by omega)]; decide
theorem Bys.below {W W' : World} {a : Option Addr} {len : Nat} {L : List Nat} (h : Bys W a len L) (hb : Below W.heap.size W W') : Bys W' a len L := by
  refine ⟨h.ln, h.le, h.by', ?_⟩
  rcases h.at' with z | ⟨b, off, e, hlt, hc⟩
  · exact .inl z
  · exact .inr ⟨b, off, e, Nat.lt_of_lt_of_le hlt hb.size, fun i hi => (hb.cell (p := ⟨b, off + i, none⟩) hlt).trans (hc i hi)⟩
theorem Bys.pos {W : World} {a : Option Addr} {len : Nat} {L : List Nat} (h : Bys W a len L) (hp : 0 < len) : ∃ b off, a = some ⟨b, off, none⟩ ∧ b < W.heap.size ∧ ∀ i, i < len → W.cell? ⟨b, off + i, none⟩ = some (.int .u8 ((L.getD i 0 : Nat) : Int)) := by
  rcases h.at' with z | z
  · omega
  · exact z
theorem Bys.nil (W : World) (a : Option Addr) : Bys W a 0 [] := ⟨rfl, Nat.zero_le _, by simp, .inl rfl⟩
theorem Bys.of_zero {W : World} {a : Option Addr} {L : List Nat} (h : Bys W a 0 L) : L = [] := List.eq_nil_of_length_eq_zero h.ln
/-- A part of them. -/
theorem Bys.sub {W : World} {b off len : Nat} {L : List Nat} (h : Bys W (some ⟨b, off, none⟩) len L) (k n : Nat) (hk : k + n ≤ len) : Bys W (some ⟨b, off + k, none⟩) n ((L.drop k).take n) := by
  have hln := h.ln
  refine ⟨by simp; omega, Nat.le_trans (by omega) h.le, fun x hx => h.by' x (List.mem_of_mem_drop (List.mem_of_mem_take hx)), ?_⟩
  rcases h.at' with z | ⟨b', off', e, hlt, hc⟩
  · exact .inl (by omega)
  · simp only [Option.some.injEq, Addr.mk.injEq, and_true] at e
    obtain ⟨rfl, rfl⟩ := e
    refine .inr ⟨b, off + k, rfl, hlt, fun i hi => ?_⟩
    have := hc (k + i) (by omega)
    rw [show off + k + i = off + (k + i) by omega, this]
    simp only [List.getD]
    rw [List.getElem?_take_of_lt hi, List.getElem?_drop]
theorem Bys.take {W : World} {a : Option Addr} {len : Nat} {L : List Nat} (h : Bys W a len L) (n : Nat) (hn : n ≤ len) : Bys W a n (L.take n) := by
  have hln := h.ln
  refine ⟨by simp; omega, Nat.le_trans hn h.le, fun x hx => h.by' x (List.mem_of_mem_take hx), ?_⟩
  rcases h.at' with z | ⟨b', off', e, hlt, hc⟩
  · exact .inl (by omega)
  · refine .inr ⟨b', off', e, hlt, fun i hi => ?_⟩
    rw [hc i (by omega)]
    simp only [List.getD]
    rw [List.getElem?_take_of_lt hi]

/-- Bytes of a block of the call's own. -/
theorem bys_block {W : World} {g : Nat} {t : TypeId} {m : Nat × Nat} (L : List Nat) (hl : L.length ≤ maxLen) (hb : ∀ b ∈ L, b < 256) (h : W.heap[g]? = some (.cells (bv L).toArray t m)) : Bys W (some ⟨g, 0, none⟩) L.length L := by
  refine ⟨rfl, hl, hb, .inr ⟨g, 0, rfl, blk_lt h, fun i hi => ?_⟩⟩
  simp only [World.cell?, h, Nat.zero_add]
  have := bv_get L i hi
  simpa using this

abbrev OwnB (B : Nat) (w : World) (g cap n : Nat) (L : List Nat) : Prop := w.ownsRow B 5 1 (.slice (some ⟨g, 0, none⟩) n cap) n (bv L)
theorem OwnB.at {B : Nat} {w : World} {g cap n : Nat} {L : List Nat} (h : OwnB B w g cap n L) : ∃ cur, n = L.length ∧ B ≤ g ∧ w.heap[g]? = some (.cells cur 5 (0, 0)) ∧ n ≤ cap ∧ cap ≤ maxLen ∧ cur.size = cap ∧ cur.toList.take n = bv L := by
  obtain ⟨hl, ⟨hv, _⟩ | ⟨g', cap', cur, hv, hg, hb, hl', hm, hs, ht⟩⟩ := h
  · simp at hv
  · simp at hv
    obtain ⟨rfl, rfl⟩ := hv
    exact ⟨cur, by simpa [bv_len, Eq.comm] using hl, hg, hb, hl', hm, by simpa using hs, by simpa using ht⟩
theorem OwnB.bys {B : Nat} {w : World} {g cap n : Nat} {L : List Nat} (h : OwnB B w g cap n L) (hb : ∀ b ∈ L, b < 256) : Bys w (some ⟨g, 0, none⟩) n L := by
  obtain ⟨cur, hn, hg, hbk, hl, hm, hs, ht⟩ := h.at
  subst hn
  refine ⟨rfl, by omega, hb, .inr ⟨g, 0, rfl, blk_lt hbk, fun i hi => ?_⟩⟩
  have : (cur.toList.take L.length)[i]? = (bv L)[i]? := by rw [ht]
  rw [List.getElem?_take_of_lt hi, bv_get L i hi] at this
  simp only [World.cell?, hbk, Nat.zero_add]
  have hc : cur[i]? = some (.int .u8 ((L.getD i 0 : Nat) : Int)) := by
    rw [← Array.getElem?_toList, this]
  simpa using hc
theorem OwnB.below {B : Nat} {w w' : World} {g cap n : Nat} {L : List Nat} (h : OwnB B w g cap n L) (hb : Below w.heap.size w w') : OwnB B w' g cap n L := by
  obtain ⟨cur, hn, hg, hbk, hl, hm, hs, ht⟩ := h.at
  exact ⟨by rw [bv_len]; omega, .inr ⟨g, cap, cur, rfl, hg, (hb.block g (blk_lt hbk)).trans hbk, hl, hm, by simpa using hs, by simpa using ht⟩⟩
theorem own_of_block {B : Nat} {w : World} {g : Nat} {L : List Nat} (hB : B ≤ g) (hl : L.length ≤ maxLen) (h : w.heap[g]? = some (.cells (bv L).toArray 5 (0, 0))) : OwnB B w g L.length L.length L :=
  ⟨by rw [bv_len, Nat.mul_one], .inr ⟨g, L.length, _, rfl, hB, h, Nat.le_refl _, hl, by simp [bv_len], by rw [List.take_of_length_le (by simp [bv_len])]⟩⟩

def strN (L : List Nat) : ByteArray := strOfNums (L.map fun (x : Nat) => (x : Int))
theorem conv_bys {W : World} {a : Option Addr} {len cap : Nat} {L : List Nat} (h : Bys W a len L) : (convert 30 9 (.slice a len cap)).run Tryd.prog W = .ok (.string (strN L)) W := by
  rcases h.at' with z | ⟨b, off, rfl, hlt, hc⟩
  · subst z
    have hf := h.of_zero
    subst hf
    rw [run_convert_bytes_string W 30 9 5 a 0 cap Tryd.underlying30 Tryd.underlying5 Tryd.underlying9]
    cases a with
    | none => simp [Conv.bytesToString, strN, strOfNums]; rfl
    | some x =>
      rw [run_bytesToString W x 0 cap [] (by simp [loadCells, loadCellsFrom])]
      rfl
  · refine run_convert_bytes_arg (P := Tryd.prog) W 30 5 Tryd.underlying30 Tryd.underlying5 b off len cap (L.map fun (x : Nat) => (x : Int)) (by simp [h.ln]) (fun i hi => ?_) 9 Tryd.underlying9
    rw [hc i hi]
    have : i < L.length := by rw [h.ln]; exact hi
    simp [List.getD, List.getElem?_eq_getElem this]
theorem strN_inj {L M : List Nat} (hL : ∀ b ∈ L, b < 256) (hM : ∀ b ∈ M, b < 256) : strN L = strN M ↔ L = M := by
  constructor
  · intro h
    have hk : (L.map fun (x : Nat) => (x : Int)).map (fun z => UInt8.ofNat z.toNat) = (M.map fun (x : Nat) => (x : Int)).map (fun z => UInt8.ofNat z.toNat) := by
      have := congrArg (fun s : ByteArray => s.data.toList) h
      simpa [strN, strOfNums] using this
    rw [List.map_map, List.map_map] at hk
    have back : ∀ K : List Nat, (∀ b ∈ K, b < 256) → (K.map ((fun z : Int => UInt8.ofNat z.toNat) ∘ fun x : Nat => (x : Int))).map UInt8.toNat = K := by
      intro K hK
      rw [List.map_map]
      conv => rhs; rw [← List.map_id K]
      apply List.map_congr_left
      intro x hx
      have := hK x hx
      simp [Function.comp]
      omega
    have := congrArg (List.map UInt8.toNat) hk
    rwa [back L hL, back M hM] at this
  · rintro rfl; rfl

theorem bys_row {W : World} {a : Option Addr} {len : Nat} {f : Nat → Int} (r : Row W a len (fun i => .int .u8 (f i))) (wf : ∀ i, i < len → (Lit.int .u8 (f i)).wf = true) : Bys W a len ((List.range len).map fun i => (f i).toNat) := by
  refine ⟨by simp, r.le, ?_, ?_⟩
  · intro b hb
    rw [List.mem_map] at hb
    obtain ⟨i, hi, rfl⟩ := hb
    have := bd_u8 (wf i (List.mem_range.1 hi))
    omega
  · rcases r.at' with z | ⟨b, off, e, hlt, hc⟩
    · exact .inl z
    · refine .inr ⟨b, off, e, hlt, fun i hi => ?_⟩
      rw [hc i hi]
      have := bd_u8 (wf i hi)
      simp only [List.getD, List.getElem?_map, List.getElem?_range hi, Option.map_some, Option.getD_some]
      rw [Int.toNat_of_nonneg this.1]

theorem info5 : (Tryd.prog.info? 5).map (fun i => (i.zero, i.size, i.bytes)) = some (some (.int .u8 0), 1, 1) := by kernel_rfl
theorem made_zero (n : Nat) : (madeCells (Value.int .u8 0).cells (n * 1)).toList = bv (List.replicate n 0) := by
  simp [madeCells, Value.cells, bv, Nat.mod_one, List.map_const']

/-- An argument of bytes. -/
structure ArgB (w : World) (a : Option Addr) (len cap : Nat) (L : List Nat) : Prop where
  row : Bys w a len L
  nil : a = none → len = 0 ∧ cap = 0
  le : len ≤ cap
  mx : cap ≤ maxLen
theorem ArgB.below {W w : World} {a : Option Addr} {len cap : Nat} {L : List Nat} (h : ArgB W a len cap L) (hb : Below W.heap.size W w) : ArgB w a len cap L := ⟨h.row.below hb, h.nil, h.le, h.mx⟩
theorem OwnB.arg {B : Nat} {w : World} {g cap n : Nat} {L : List Nat} (h : OwnB B w g cap n L) (hb : ∀ b ∈ L, b < 256) : ArgB w (some ⟨g, 0, none⟩) n cap L := by
  obtain ⟨cur, hn, hg, hbk, hl, hm, hs, ht⟩ := h.at
  exact ⟨h.bys hb, (fun e => by cases e), hl, hm⟩
theorem arg_bytes {H : Type} {enc : TypeId × Value → H} {w : World} {fuel : Nat} {a : Option Addr} {len cap : Nat} {x : DataW H × List MemPlace} (h : DataW.trod enc Tryd.prog w 0 (fun _ => true) true fuel 30 [.slice a len cap] = some x) :
    ∃ L : List Nat, ArgB w a len cap L := by
  rcases open_ints (k := .u8) Tryd.underlying30 Tryd.underlying5 (by kernel_rfl) h with ⟨hcs, _⟩ | ⟨y, l, c, zs, hcs, _, hl, hm, hz, _, hcell, hwz⟩
  · simp at hcs
    obtain ⟨rfl, rfl, rfl⟩ := hcs
    exact ⟨[], Bys.nil _ _, fun _ => ⟨rfl, rfl⟩, Nat.le_refl _, Nat.zero_le _⟩
  · simp at hcs
    obtain ⟨rfl, rfl, rfl⟩ := hcs
    have hz' : zs.length = cap := by simpa using hz
    have hr : Row w (some y) len (fun i => .int .u8 (zs.getD i 0)) := Row.mk_of (Nat.le_trans hl hm) (fun i hi => hcell i (by omega))
    refine ⟨_, bys_row hr (fun i hi => hwz _ ?_), (fun e => by cases e), hl, hm⟩
    have hi' : i < zs.length := by omega
    simp [List.getD, List.getElem?_eq_getElem hi']

theorem own_none {B : Nat} {w : World} : w.ownsRow B 5 1 (.slice none 0 0) 0 (bv []) := ⟨rfl, .inl ⟨rfl, rfl⟩⟩
theorem own_new {B : Nat} {w : World} (hB : B ≤ w.heap.size) : (w.alloc (.cells #[] 5 (0, 0))).ownsRow B 5 1 (.slice (some ⟨w.heap.size, 0, none⟩) 0 0) 0 (bv []) :=
  ⟨rfl, .inr ⟨w.heap.size, 0, #[], rfl, hB, heap_alloc_new w _, Nat.le_refl _, Nat.zero_le _, rfl, rfl⟩⟩
/-- Bytes, or nothing, behind a row that the call owns. -/
theorem wpList_append_bys {ops : Array Oper} {rest : List Oper} {o : Oper} {ac : Act} {Q : Exit → Act → World → Prop} (hgd : o.guard = none) (s x : Operand)
    (ho : o.op = .call { callee := .builtin .append, args := #[s, x], argTypes := #[30, 30] }) (B : Nat) (w : World) (hB : B ≤ w.heap.size) (v : Value) (n : Nat) (L : List Nat) (hs : ac.eval s = v)
    (hown : w.ownsRow B 5 1 v n (bv L)) (a : Option Addr) (len cap : Nat) (M : List Nat) (hx : ac.eval x = .slice a len cap) (hb : Bys w a len M) (hnil : a = none → cap = 0) (hle : n + len ≤ 100000000)
    (h : ∀ v' w', w'.ownsRow B 5 1 v' (n + len) (bv (L ++ M)) → w.grownBy w' v.ownBlock → (v' = .slice none 0 0 ↔ v = .slice none 0 0 ∧ len = 0) → (v'.ownBlock = v.ownBlock ∨ v'.ownBlock = some w.heap.size) → wpList Tryd.prog ops Q rest (ac.put o.dst v') w') :
    wpList Tryd.prog ops Q (o :: rest) ac w := by
  obtain ⟨ti, hi, hz0, hz1, hz2⟩ := info_parts info5
  cases a with
  | none =>
    obtain rfl := hnil rfl
    have h0 : len = 0 := by
      rcases hb.at' with z | ⟨_, _, e, _⟩
      · exact z
      · cases e
    subst h0
    have hM := hb.of_zero
    subst hM
    refine wpList_append_own_none hgd s x 30 ho B 5 ti 1 Tryd.underlying30 hi _ n (bv L) hs hown hx ?_
    exact h v w (by simpa using hown) ⟨rfl, rfl, rfl, Nat.le_refl _, fun _ _ _ => rfl⟩ (by simp) (.inl rfl)
  | some ad =>
    have hc : ∀ j u, (bv M)[j]? = some u → w.cell? (ad.add j) = some u := by
      intro j u hu
      have hj : j < len := by
        have := (List.getElem?_eq_some_iff.1 hu).1
        rwa [bv_len, hb.ln] at this
      obtain ⟨b, off, ha, _, hcc⟩ := hb.pos (by omega)
      simp at ha
      subst ha
      rw [bv_get M j (by rw [hb.ln]; exact hj)] at hu
      rw [addr_add_none, ← hu]
      exact hcc j hj
    refine wpList_append_own_at _ hgd s x 30 ho B 5 ti (.int .u8 0) 1 1 Tryd.underlying30 hi hz0 hz1 hz2 rfl (by decide) v n (bv L) hs hown ad len cap (bv M) hx (by rw [bv_len, hb.ln]; omega) hc (bv_one _) (by unfold maxLen; omega) (by omega) hB ?_
    intro v' w' hown' hg hnn hbk
    exact h v' w' (by rw [bv_app]; exact hown') hg hnn hbk
theorem owns_slice {B : Nat} {w : World} {v : Value} {n : Nat} {L : List Nat} (h : w.ownsRow B 5 1 v n (bv L)) (hp : ¬ v = .slice none 0 0) : ∃ g cap, v = .slice (some ⟨g, 0, none⟩) n cap ∧ OwnB B w g cap n L := by
  obtain ⟨h1, ⟨h0, _⟩ | ⟨g', cap', cur, hv, hrest⟩⟩ := h
  · exact absurd h0 hp
  · exact ⟨g', cap', hv, h1, .inr ⟨g', cap', cur, rfl, hrest⟩⟩
/-- What is owned, taken apart. -/
theorem owns_cases {B : Nat} {w : World} {v : Value} {n : Nat} {L : List Nat} (h : w.ownsRow B 5 1 v n (bv L)) (hp : 0 < n) : ∃ g cap, v = .slice (some ⟨g, 0, none⟩) n cap ∧ OwnB B w g cap n L := by
  obtain ⟨h1, ⟨_, h0⟩ | ⟨g', cap', cur, hv, hrest⟩⟩ := h
  · omega
  · exact ⟨g', cap', hv, h1, .inr ⟨g', cap', cur, rfl, hrest⟩⟩
end Go.Proofs.YtogpbclfdnijpaaDoor
