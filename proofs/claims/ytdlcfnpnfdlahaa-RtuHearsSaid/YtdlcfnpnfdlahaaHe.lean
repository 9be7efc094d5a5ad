/- The document's ear; what both say of a silence. -/
import Derived.Test.YtdlcfnpnfdlahaaHs
namespace Go.Proofs.Ytdlcfnpnfdlahaa
set_option linter.unusedVariables false
open Go.ChangeShapes Go.WideShapes Go.ChangeAt Go.RowKit

/-- The document's ear, that has heard T; x is a block that it is apart from. -/
structure Rr (x : Nat) (w : World) (r : Nat) (T : List Nat) : Prop where
  ex : ∃ (a : Option Addr) (n c : Nat), w.heap[r]? = some (.cells #[.slice a n c] 52 (0, 0)) ∧ ArgB w a n c T ∧ ∀ b off, a = some ⟨b, off, none⟩ → 0 < n → b ≠ x ∧ b ≠ r
  ne : r ≠ x
theorem Rr.lt {x r : Nat} {w : World} {T : List Nat} (h : Rr x w r T) : r < w.heap.size := by
  obtain ⟨a, n, c, h1, _⟩ := h.ex; exact blk_lt h1
theorem Rr.fr {x r : Nat} {w w' : World} {T : List Nat} (h : Rr x w r T) (hf : Fr x w w') : Rr x w' r T := by
  obtain ⟨a, n, c, h1, h2, h3⟩ := h.ex
  exact ⟨⟨a, n, c, (hf.block r (blk_lt h1) h.ne).trans h1, ⟨h2.row.fr hf (fun b off h0 e => (h3 b off e h0).1), h2.nil, h2.le, h2.mx⟩, h3⟩, h.ne⟩
theorem Rr.below {x r : Nat} {w w' : World} {T : List Nat} (h : Rr x w r T) (hb : Below w.heap.size w w') : Rr x w' r T := h.fr (Fr.of_below hb)
theorem Er.fr {B e r : Nat} {w w' : World} {T : List Nat} (h : Er B w e T) (hf : Fr r w w') (hne : e ≠ r) : Er B w' e T := by
  obtain ⟨C, h1, h2, h3, h4⟩ := h.ex
  exact ⟨h.hB, C, h1, h2, (hf.block e (blk_lt h3) hne).trans h3, h4⟩

theorem cell1 {w : World} {r : Nat} {v : Value} {t : TypeId} (h : w.heap[r]? = some (.cells #[v] t (0, 0))) : w.cell? ⟨r, 0, none⟩ = some v ∧ w.frozen? ⟨r, 0, none⟩ = false := by
  simp [World.cell?, World.frozen?, h]

theorem rnew_any (x : Nat) (w : World) (hx : x < w.heap.size) : Calls Try.prog 15 #[] w fun e w' => e = .returned (.pointer (some ⟨w.heap.size, 0, none⟩)) ∧ Rr x w' w.heap.size [] ∧ Below w.heap.size w w' := by
  have hp : Rr x (w.alloc (.cells #[.slice none 0 0] 52 (0, 0))) w.heap.size [] ∧ Below w.heap.size w (w.alloc (.cells #[.slice none 0 0] 52 (0, 0))) :=
    ⟨⟨⟨none, 0, 0, heap_alloc_new w _, ⟨Bys.nil _ _, fun _ => ⟨rfl, rfl⟩, Nat.le_refl _, Nat.zero_le _⟩, (fun b off e => by cases e)⟩, by omega⟩, (Below.refl _ _).alloc (Nat.le_refl _) _⟩
  have HP := Lib.hid hp
  clear hp
  go_enter Try.func15, Try.ntmps15
  go_wp2_with fail
  go_ret
  exact ⟨rfl, HP.out⟩

theorem rmany_any {x r : Nat} {w : World} {T : List Nat} (h : Rr x w r T) :
    Calls Try.prog 22 #[.pointer (some ⟨r, 0, none⟩)] w fun e w' => e = .returned (.int .i64 (min T.length 257 : Nat)) ∧ w = w' := by
  obtain ⟨a, n, c, h1, h2, _⟩ := h.ex
  obtain ⟨c0, f0⟩ := cell1 h1
  have hn := h2.row.ln
  have hl := h2.row.le
  unfold maxLen at hl
  have hm : ((min T.length 257 : Nat) : Int) = if (n : Int) ≤ 257 then (n : Int) else 257 := by rw [hn]; split <;> omega
  have HM := Lib.hid hm
  clear h h1 h2 hn hm
  go_enter Try.func22, Try.ntmps22
  go_wp2_with fail
  all_goals
    go_ret
    refine ⟨?_, rfl⟩
    rw [HM.out]
    first
      | rfl
      | (rw [if_pos (by omega)]; rfl)
      | (rw [if_neg (by omega)]; rfl)

def RHearP (x : Nat) (w : World) (r : Nat) (T : List Nat) (e : Ending) (w' : World) : Prop := e = .returned (.tuple #[]) ∧ Rr x w' r T ∧ Fr r w w'

set_option maxRecDepth 100000 in
set_option maxHeartbeats 2000000 in
theorem rhear_any {x r : Nat} {w : World} {T : List Nat} (h : Rr x w r T) (hx : x < w.heap.size) (a : Option Addr) (n cap : Nat) (M : List Nat) (hM : ArgB w a n cap M) (hN : T.length + n ≤ 10000000) :
    Calls Try.prog 20 #[.pointer (some ⟨r, 0, none⟩), .slice a n cap] w (RHearP x w r (T ++ M)) := by
  obtain ⟨a0, n0, c0', h1, h2, h3⟩ := h.ex
  obtain ⟨c0, f0⟩ := cell1 h1
  have hrl := blk_lt h1
  have hn0 := h2.row.ln
  have hne := h.ne
  have H1 := Lib.hid h1
  have H2 := Lib.hid h2
  have HM := Lib.hid hM
  clear h h1 h2 h3 hM
  go_enter Try.func20, Try.ntmps20
  go_wp2_with (at_builtin; refine wpList_append_bys rfl (.tmp 5) (.tmp 9) rfl w.heap.size _ ?hB (.slice (some ⟨w.heap.size, 0, none⟩) 0 0) 0 [] rfl ?own a0 n0 c0' T rfl ?hby ?nil ?le ?_)
  case hB => simp
  case own => exact own_new (Nat.le_refl _)
  case nil => exact fun e => (H2.out.nil e).2
  case le => omega
  case hby => exact H2.out.row.below ((Below.refl _ _).alloc (Nat.le_refl _) _)
  intro v2 w2 ho2 hg2 hn2 hk2
  have b2 : Below w.heap.size w w2 := ((Below.refl _ _).alloc (Nat.le_refl _) _).grown hg2 (by simp) (fun k hk => by simp [Value.ownBlock] at hk; omega)
  have O2 := Lib.hid ho2
  have B2 := Lib.hid b2
  have N2 := Lib.hid hn2
  have M2 := Lib.hid (HM.out.below b2)
  clear ho2 hg2 hn2 hk2 b2
  go_wp2_with (at_builtin; refine wpList_append_bys rfl (.tmp 10) (.tmp 11) rfl w.heap.size _ ?hB2 v2 n0 T rfl O2.out a n cap M rfl ?hby2 ?nil2 ?le2 ?_)
  case hB2 => exact B2.out.size
  case nil2 => exact fun e => (M2.out.nil e).2
  case le2 => omega
  case hby2 => exact M2.out.row
  intro v3 w3 ho3 hg3 hn3 hk3
  have b3 : Below w.heap.size w w3 := B2.out.grown hg3 B2.out.size (fun k hk => (O2.out.lt k hk).1)
  obtain ⟨g3, k3, rfl, ho3'⟩ := owns_slice ho3 (fun e => by
    have h4 := (hn3.1 e).1
    have h5 := N2.out
    first | exact h5 h4 | (have h6 := h5.1 h4; simp at h6))
  have hg3' : w.heap.size ≤ g3 := by obtain ⟨_, _, h, _⟩ := ho3'.at; exact h
  have hcell := (b3.cell (p := ⟨r, 0, none⟩) hrl).trans c0
  have hfz := (b3.frozen (p := ⟨r, 0, none⟩) hrl).trans f0
  have hblk := (b3.block r hrl).trans H1.out
  have hA := ho3'.arg (by
    have hh := H2.out.row.by'
    have hh2 := HM.out.row.by'
    intro b hb
    rcases List.mem_append.1 hb with z | z
    · exact hh b z
    · exact hh2 b z)
  have hfr : Fr r w (w3.setCell ⟨r, 0, none⟩ (.slice (some ⟨g3, 0, none⟩) (n0 + n) k3)) := (Fr.of_below b3).setCell _ _
  have hA' : ArgB (w3.setCell ⟨r, 0, none⟩ (.slice (some ⟨g3, 0, none⟩) (n0 + n) k3)) (some ⟨g3, 0, none⟩) (n0 + n) k3 (T ++ M) :=
    ⟨hA.row.fr (e := r) ((Fr.of_below (Below.refl _ _)).setCell _ _) (fun b off _ e => by simp only [Option.some.injEq, Addr.mk.injEq, and_true] at e; omega), hA.nil, hA.le, hA.mx⟩
  have hp : RHearP x w r (T ++ M) (.returned (.tuple #[])) (w3.setCell ⟨r, 0, none⟩ (.slice (some ⟨g3, 0, none⟩) (n0 + n) k3)) := by
    refine ⟨rfl, ⟨⟨_, _, _, ?_, hA', fun b off e _ => ?_⟩, hne⟩, hfr⟩
    · rw [heap_set_same hblk]; rfl
    · simp only [Option.some.injEq, Addr.mk.injEq, and_true] at e
      omega
  have HP := Lib.hid hp
  clear hp hA' hfr hA hblk b3 ho3 ho3' hg3 hn3 hk3 O2 N2 M2 B2
  go_wp2_with fail
  first | go_end0 | refine bodyPost_ret (results_none rfl _ _ _) rfl ?_
  first | exact HP.out | (have h9 := HP.out; simpa using h9)

/-- What a silence tells, in numbers. -/
def sU (T : List Nat) : Nat := if T = [] then 0 else gU T
def sP (T : List Nat) : List Nat := if T = [] then [] else gP T
def sC (T : List Nat) : Nat := if T = [] then 0 else gC T
/-- Was anything heard? -/
def nzB (T : List Nat) : Bool := decide (T ≠ [])
def SilU (w : World) (T : List Nat) (r : Ending) (w' : World) : Prop :=
  ∃ xa xl xc, r = .returned (.tuple #[.int .u8 (sU T : Nat), .slice xa xl xc, .int .i64 (sC T : Nat), .bool (nzB T)]) ∧ Bys w' xa xl (sP T) ∧ ∀ b off, xa = some ⟨b, off, none⟩ → 0 < xl → w.heap.size ≤ b
theorem sil_u {B e : Nat} {w : World} {T : List Nat} (h : Er B w e T) (hBw : B ≤ w.heap.size) (hb : ∀ b ∈ T, b < 256) :
    Calls Try.prog 17 #[.pointer (some ⟨e, 0, none⟩)] w fun r w' => SilU w T r w' ∧ Er B w' e [] ∧ Fr e w w' := by
  refine (sil_any h hBw).mono ?_
  rintro r w1 ⟨he, hf, hif⟩
  refine ⟨?_, he, hf⟩
  unfold SilU sU sP sC
  by_cases h0 : T = []
  · subst h0
    rw [show sil [] = .err 0 from rfl] at hif
    exact ⟨_, _, _, hif, Bys.nil _ _, (fun b off e => by cases e)⟩
  · have hs : sil T = getR T := by unfold sil; rw [if_neg h0]
    rw [hs] at hif
    rw [if_neg h0, if_neg h0, if_neg h0]
    unfold gU gP gC
    cases hr : getR T with
    | err c => rw [hr] at hif; exact ⟨_, _, _, hif, Bys.nil _ _, (fun b off e => by cases e)⟩
    | ok u P =>
      rw [hr] at hif
      obtain ⟨g, k, he', ho⟩ := hif
      refine ⟨_, _, _, he', ho.bys (getR_by' hr hb).2, fun b off e _ => ?_⟩
      obtain ⟨_, _, h, _⟩ := ho.at
      simp only [Option.some.injEq, Addr.mk.injEq, and_true] at e
      omega

def RSilU (w : World) (T : List Nat) (r : Ending) (w' : World) : Prop :=
  ∃ xa xl xc, r = .returned (.tuple #[.int .u8 (sU T : Nat), .slice xa xl xc, .int .i64 (sC T : Nat), .bool (nzB T)]) ∧ Bys w' xa xl (sP T)

theorem rget_f (a : Option Addr) (len cap : Nat) (L : List Nat) (w : World) (h : ArgB w a len cap L) : Calls Try.prog 11 #[.slice a len cap] w fun e w' =>
    ∃ xa xl xc, e = .returned (.tuple #[.int .u8 (gU L : Nat), .slice xa xl xc, .int .i64 (gC L : Nat)]) ∧ Bys w' xa xl (gP L) ∧ Below w.heap.size w w' ∧ ∀ b off, xa = some ⟨b, off, none⟩ → w.heap.size ≤ b := by
  refine (rget_any a len cap L w h).mono ?_
  rintro e w1 ⟨hb, hif⟩
  unfold gU gP gC
  cases hr : getR L with
  | err c => rw [hr] at hif; exact ⟨_, _, _, hif, Bys.nil _ _, hb, (fun b off e => by cases e)⟩
  | ok u P =>
    rw [hr] at hif
    obtain ⟨g, k, he, ho, hg⟩ := hif
    refine ⟨_, _, _, he, ho, hb, fun b off e => ?_⟩
    simp only [Option.some.injEq, Addr.mk.injEq, and_true] at e
    omega

set_option maxRecDepth 100000 in
set_option maxHeartbeats 2000000 in
theorem rsil_any {x r : Nat} {w : World} {T : List Nat} (h : Rr x w r T) :
    Calls Try.prog 18 #[.pointer (some ⟨r, 0, none⟩)] w fun e w' => RSilU w T e w' ∧ Rr x w' r [] ∧ Fr r w w' := by
  obtain ⟨a0, n0, k0, h1, h2, h3⟩ := h.ex
  obtain ⟨c0, f0⟩ := cell1 h1
  have hrl := blk_lt h1
  have hn0 := h2.row.ln
  by_cases h0 : n0 = 0
  · have hT : T = [] := by subst h0; exact h2.row.of_zero
    subst hT
    have hp : (RSilU w [] (.returned (.tuple #[.int .u8 0, .slice none 0 0, .int .i64 0, .bool false])) w) ∧ Rr x w r [] ∧ Fr r w w :=
      ⟨⟨none, 0, 0, rfl, Bys.nil _ _⟩, h, Fr.of_below (Below.refl _ _)⟩
    have HP := Lib.hid hp
    have d1 : ((n0 : Int) == 0) = true := by simp [h0]
    clear hp h h1 h2 h3 hn0 h0
    go_enter Try.func18, Try.ntmps18
    go_wp2_with fail
    exact bodyPost_ret (v := .tuple #[.int .u8 0, .slice none 0 0, .int .i64 0, .bool false]) (by simp [results, Try.results18, go_sem]) rfl HP.out
  · have hT : T ≠ [] := by intro e; rw [e] at hn0; simp at hn0; omega
    have d1 : ((n0 : Int) == 0) = false := by simp; omega
    have H1 := Lib.hid h1
    have H2 := Lib.hid h2
    have HT := Lib.hid hT
    have hne := h.ne
    clear h h1 h2 h3 hn0 h0 hT
    go_enter Try.func18, Try.ntmps18
    go_wp2_with fail
    refine (rget_f a0 n0 k0 T _ H2.out).mono ?_
    rintro e w1 ⟨xa, xl, xc, rfl, hx, hb, hfr0⟩
    have hblk := (hb.block r hrl).trans H1.out
    obtain ⟨c1, f1⟩ := cell1 hblk
    have hfr : Fr r w (w1.setCell ⟨r, 0, none⟩ (.slice none 0 0)) := (Fr.of_below hb).setCell _ _
    have hRr : Rr x (w1.setCell ⟨r, 0, none⟩ (.slice none 0 0)) r [] := ⟨⟨none, 0, 0, by rw [heap_set_same hblk]; rfl, ⟨Bys.nil _ _, fun _ => ⟨rfl, rfl⟩, Nat.le_refl _, Nat.zero_le _⟩, (fun b off e => by cases e)⟩, hne⟩
    have hgu : sU T = gU T ∧ sP T = gP T ∧ sC T = gC T ∧ nzB T = true := by unfold sU sP sC nzB; rw [if_neg HT.out, if_neg HT.out, if_neg HT.out]; simp [HT.out]
    have hx' : Bys (w1.setCell ⟨r, 0, none⟩ (.slice none 0 0)) xa xl (gP T) := hx.fr (e := r) ((Fr.of_below (Below.refl _ _)).setCell _ _) (fun b off _ e => by have := hfr0 b off e; omega)
    have HX := Lib.hid hx'
    have HG := Lib.hid hgu
    have HR := Lib.hid hRr
    have HF := Lib.hid hfr
    have HBK := Lib.hid hblk
    clear hx hx' hfr0 hgu hRr hfr hb hblk
    generalize hgU : gU T = gu at *
    generalize hgC : gC T = gc at *
    generalize hgP : gP T = gp at *
    clear hgU hgC hgP
    go_wp2_with fail
    refine bodyPost_ret (v := .tuple #[.int .u8 (gu : Nat), .slice xa xl xc, .int .i64 (gc : Nat), .bool true]) (by simp [results, Try.results18, go_sem]) rfl ⟨⟨xa, xl, xc, ?_, ?_⟩, HR.out, HF.out⟩
    · rw [HG.out.1, HG.out.2.2.1, HG.out.2.2.2]
    · rw [HG.out.2.1]; exact HX.out
end Go.Proofs.Ytdlcfnpnfdlahaa
