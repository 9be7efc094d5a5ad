/- A region that draws its order: two appends, a call between them, a slice that is laid. -/
import Derived.Test.YthcfmfkdglmkmaaWe
import Derived.Deep.RegionHeld3
import Derived.Deep.AppendLies
namespace Go.Proofs.Ythcfmfkdglmkmaa
set_option linter.unusedVariables false
set_option linter.unusedSimpArgs false
open Go.ChangeShapes Go.WideShapes Go.ChangeAt Go.RowKit

/-- Bytes, or nothing, behind a row that the call owns: as one step of a region that draws. -/
theorem step_append_bys {ops : Array Oper} {o : Oper} {ac : Act} {K : Act → World → Prop} {Q : Exit → Act → World → Prop} {E : Prop} (hgd : o.guard = none) (s x : Operand)
    (ho : o.op = .call { callee := .builtin .append, args := #[s, x], argTypes := #[27, 27] }) (B : Nat) (w : World) (hB : B ≤ w.heap.size) (v : Value) (n : Nat) (L : List Nat) (hs : ac.eval s = v)
    (hown : w.ownsRow B 5 1 v n (bv L)) (a : Option Addr) (len cap : Nat) (M : List Nat) (hx : ac.eval x = .slice a len cap) (hb : Bys w a len M) (hnil : a = none → cap = 0) (hle : n + len ≤ 100000000)
    (h : ∀ v' w', w'.ownsRow B 5 1 v' (n + len) (bv (L ++ M)) → w.grownBy w' v.ownBlock → (v'.ownBlock = v.ownBlock ∨ v'.ownBlock = some w.heap.size) → K (ac.put o.dst v') w') :
    if Region.wanted o (yielded ops ac.tmps) = true then Oper.wp Try.prog o ac w K Q else E := by
  have hw : Region.wanted o (yielded ops ac.tmps) = true := by simp [Region.wanted, hgd]
  rw [if_pos hw]
  obtain ⟨ti, hi, hz0, hz1, hz2⟩ := info_parts info5
  cases a with
  | none =>
    obtain rfl := hnil rfl
    have h0 : len = 0 := by
      rcases hb.at' with z | ⟨_, _, e, _⟩
      · exact z
      · cases e
    subst h0
    have hM := hb.of_zero
    subst hM
    have hrun := run_append_owned_none (P := Try.prog) (w := w) B 27 o.type 5 ti 1 Try.underlying27 hi _ n (bv L) hown
    unfold Oper.wp
    simp [execOp, ho, resolve, invoke, builtin, hs, hx, hrun, Result.andThen]
    exact h v w (by simpa using hown) ⟨rfl, rfl, rfl, Nat.le_refl _, fun _ _ _ => rfl⟩ (.inl rfl)
  | some ad =>
    have hc : ∀ j u, (bv M)[j]? = some u → w.cell? (ad.add j) = some u := by
      intro j u hu
      have hj : j < len := by
        have := (List.getElem?_eq_some_iff.1 hu).1
        rwa [bv_len, hb.ln] at this
      obtain ⟨b, off, ha, _, hcc⟩ := hb.pos (by omega)
      simp at ha
      subst ha
      rw [bv_get M j (by rw [hb.ln]; exact hj)] at hu
      rw [addr_add_none, ← hu]
      exact hcc j hj
    obtain ⟨v', w', hr, h2, h3, h4, h5⟩ := run_append_own_at (P := Try.prog) w B 27 o.type 5 ti (.int .u8 0) 1 1 Try.underlying27 hi hz0 hz1 hz2 rfl (by decide) v n (bv L) hown ad len cap (bv M) (by rw [bv_len, hb.ln]; omega) hc (bv_one _) (by unfold maxLen; omega) (by omega) hB
    rw [← bv_app] at h2
    unfold Oper.wp execOp
    simp only [ho, resolve, invoke, builtin, Sem.run_bind, Sem.run_pure, Result.andThen_ok, List.map_toArray, List.map_cons, List.map_nil, hs, hx, hr]
    exact h v' w' h2 h3 h5

/-- What lies below is as the call found it, and what w2 held is as it was, but for the row r. -/
def Kq (B : Nat) (w w2 : World) (r : Option Nat) (W : World) : Prop := Below B w W ∧ w2.heap.size ≤ W.heap.size ∧ (∀ k, k < w2.heap.size → some k ≠ r → (W.heap[k]? = w2.heap[k]?)) ∧ B ≤ w.heap.size
theorem Kq.refl {B : Nat} {w w2 : World} {r : Option Nat} (h : Below B w w2) (hB : B ≤ w.heap.size) : Kq B w w2 r w2 := ⟨h, Nat.le_refl _, fun _ _ _ => rfl, hB⟩
theorem Kq.le {B : Nat} {w w2 W : World} {r : Option Nat} (h : Kq B w w2 r W) : B ≤ W.heap.size := Nat.le_trans h.2.2.2 h.1.size
theorem Kq.drew {B : Nat} {w w2 W : World} {r : Option Nat} (h : Kq B w w2 r W) : Kq B w w2 r W.drew := ⟨h.1.drew, h.2.1, h.2.2.1, h.2.2.2⟩
theorem Kq.al {B : Nat} {w w2 W : World} {r : Option Nat} (o : Obj) (h : Kq B w w2 r W) : Kq B w w2 r (W.alloc o) :=
  ⟨h.1.alloc h.le _, by have := h.2.1; simp; omega, fun k hk hr => (heap_alloc_old _ _ (by have := h.2.1; omega)).trans (h.2.2.1 k hk hr), h.2.2.2⟩
theorem Kq.step {B : Nat} {w w2 W W' : World} {r : Option Nat} (h : Kq B w w2 r W) (z : Below W.heap.size W W') : Kq B w w2 r W' :=
  ⟨h.1.trans (z.mono h.le), Nat.le_trans h.2.1 z.size, fun k hk hr => (z.block k (by have := h.2.1; omega)).trans (h.2.2.1 k hk hr), h.2.2.2⟩
theorem Kq.at {B : Nat} {w w2 W : World} {r : Option Nat} (h : Kq B w w2 r W) {k : Nat} {o : Obj} (hk : w2.heap[k]? = some o) (hr : some k ≠ r) : W.heap[k]? = some o := (h.2.2.1 k (blk_lt hk) hr).trans hk
/-- A row of the call's own: the old one, or one that is newer than w2. -/
def Rwq (B : Nat) (w2 : World) (r : Option Nat) (W : World) (v : Value) (n : Nat) (L : List Nat) : Prop := W.ownsRow B 5 1 v n (bv L) ∧ (v.ownBlock = r ∨ ∃ g, v.ownBlock = some g ∧ w2.heap.size ≤ g)
theorem Rwq.step {B : Nat} {w2 W W' : World} {r : Option Nat} {v : Value} {n : Nat} {L : List Nat} (h : Rwq B w2 r W v n L) (z : Below W.heap.size W W') : Rwq B w2 r W' v n L := ⟨own_keep h.1 z, h.2⟩
theorem Rwq.al {B : Nat} {w2 W : World} {r : Option Nat} {v : Value} {n : Nat} {L : List Nat} (o : Obj) (h : Rwq B w2 r W v n L) : Rwq B w2 r (W.alloc o) v n L := h.step (alloc_bq _ _)
theorem Rwq.drew {B : Nat} {w2 W : World} {r : Option Nat} {v : Value} {n : Nat} {L : List Nat} (h : Rwq B w2 r W v n L) : Rwq B w2 r W.drew v n L := h.step (Below.refl _ _).drew
theorem Kq.grow {B : Nat} {w w2 W W' : World} {r : Option Nat} {v : Value} {n : Nat} {L : List Nat} (h : Kq B w w2 r W) (hr : Rwq B w2 r W v n L) (g : W.grownBy W' v.ownBlock) : Kq B w w2 r W' := by
  refine ⟨h.1.grown g h.le (fun q hq => (World.ownsRow.lt hr.1 q hq).1), Nat.le_trans h.2.1 g.size, fun k hk hn => (g.block k (by have := h.2.1; omega) ?_).trans (h.2.2.1 k hk hn), h.2.2.2⟩
  rcases hr.2 with e | ⟨q, e, hq⟩
  · rw [e]; exact hn
  · rw [e]; simp; omega
/-- An append of bytes onto it. -/
theorem step_one {ops : Array Oper} {o : Oper} {ac : Act} {K : Act → World → Prop} {Q : Exit → Act → World → Prop} {E : Prop} (hgd : o.guard = none) (s x : Operand)
    (ho : o.op = .call { callee := .builtin .append, args := #[s, x], argTypes := #[27, 27] }) {B : Nat} {w w2 W : World} {r : Option Nat} (hK : Kq B w w2 r W) (v : Value) (n : Nat) (L : List Nat) (hs : ac.eval s = v)
    (hr : Rwq B w2 r W v n L) (a : Option Addr) (len cap : Nat) (M : List Nat) (hx : ac.eval x = .slice a len cap) (hb : Bys W a len M) (hnil : a = none → cap = 0) (hle : n + len ≤ 100000000)
    (h : ∀ a' c' w', Kq B w w2 r w' → Rwq B w2 r w' (.slice a' (n + len) c') (n + len) (L ++ M) → W.grownBy w' v.ownBlock → K (ac.put o.dst (.slice a' (n + len) c')) w') :
    if Region.wanted o (yielded ops ac.tmps) = true then Oper.wp Try.prog o ac W K Q else E := by
  refine step_append_bys hgd s x ho B W hK.le v n L hs hr.1 a len cap M hx hb hnil hle ?_
  intro v' w' ho' hg hob
  obtain ⟨a', c', rfl⟩ := own_form ho'
  refine h a' c' w' (hK.grow hr hg) ⟨ho', ?_⟩ hg
  rcases hob with e | e
  · rw [e]; exact hr.2
  · exact .inr ⟨_, e, hK.2.1⟩
theorem ArgB.grow {w2 W w' : World} {a : Option Addr} {n d : Nat} {L : List Nat} {q : Option Nat} (A : ArgB W a n d L) (base : ∀ b off, a = some ⟨b, off, none⟩ → w2.heap.size ≤ b) (hq : ∀ g, q = some g → g < w2.heap.size) (g : W.grownBy w' q) : ArgB w' a n d L := by
  refine ⟨⟨A.row.ln, A.row.le, A.row.by', ?_⟩, A.nil, A.le, A.mx⟩
  rcases A.row.at' with z | ⟨b, off, e, hlt, hc⟩
  · exact .inl z
  · refine .inr ⟨b, off, e, Nat.lt_of_lt_of_le hlt g.size, fun i hi => ?_⟩
    rw [← hc i hi]
    refine World.cell?_of_block (g.block b hlt ?_)
    intro e2
    have h1 := hq b e2.symm
    have h2 := base b off e
    omega
theorem new_bys (k : Nat) (hk : k < 256) (W : World) : Bys (W.alloc (.cells #[.int .u8 (k : Int)] 5 (0, 0))) (some ⟨W.heap.size, 0, none⟩) 1 [k] :=
  bys_block [k] (by simp [maxLen]) (by intro b hb; simp at hb; omega) (by rw [heap_alloc_new]; simp [bv]) (t := 5) (m := (0, 0))
end Go.Proofs.Ythcfmfkdglmkmaa
