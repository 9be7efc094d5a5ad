/- The document's New. -/
import Derived.Test.YtfloceoopjokcaaY
import Derived.Deep.RegionLaw
namespace Go.Proofs.Ytfloceoopjokcaa
set_option linter.unusedVariables false
open Go.ChangeShapes Go.WideShapes Go.ChangeAt Go.RowKit

/-- Numbers behind a new empty row, as one step of a region that draws. -/
theorem step_app_ir {ops : Array Oper} {o : Oper} {a : Act} {K : Act → World → Prop} {Q : Exit → Act → World → Prop} {E : Prop} (hgd : o.guard = none) (s x : Operand)
    (ho : o.op = .call { callee := .builtin .append, args := #[s, x], argTypes := #[22, 22] }) (w : World) (g : Nat) (hs : a.eval s = .slice (some ⟨g, 0, none⟩) 0 0) (hg : w.heap[g]? = some (.cells #[] 2 (0, 0)))
    (ad : Option Addr) (n c : Nat) (M : List Int) (hx : a.eval x = .slice ad n c) (hA : ArgI w ad n c M) (hle : n * 8 ≤ 140737488355328)
    (h : ∀ g' c' w', (g' = g ∨ g' = w.heap.size) → g ≤ g' → Rw w' g' n M → w.grownBy w' (some g) → n ≤ c' → c' ≤ maxLen → K (a.put o.dst (.slice (some ⟨g', 0, none⟩) n c')) w') :
    if Region.wanted o (yielded ops a.tmps) = true then Oper.wp Try.prog o a w K Q else E := by
  have hw : Region.wanted o (yielded ops a.tmps) = true := by simp [Region.wanted, hgd]
  rw [if_pos hw]
  obtain ⟨ti, hi, hz0, hz1, hz2⟩ := info_parts info2
  have hglt : g < w.heap.size := blk_lt hg
  have hown : w.ownsRow g 2 1 (.slice (some ⟨g, 0, none⟩) 0 0) 0 (iv []) := ⟨rfl, .inr ⟨g, 0, #[], rfl, Nat.le_refl _, hg, Nat.le_refl _, Nat.zero_le _, rfl, rfl⟩⟩
  cases ad with
  | none =>
    obtain ⟨rfl, rfl⟩ := hA.nil rfl
    have hrun := run_append_owned_none (P := Try.prog) (w := w) g 22 o.type 2 ti 1 Try.underlying22 hi _ 0 (iv []) hown
    unfold Oper.wp
    simp [execOp, ho, resolve, invoke, builtin, hs, hx, hrun, Result.andThen]
    exact h g 0 w (.inl rfl) (Nat.le_refl _) ⟨#[], hg, fun i hi => by omega⟩ ⟨rfl, rfl, rfl, Nat.le_refl _, fun _ _ _ => rfl⟩ (Nat.le_refl _) (Nat.zero_le _)
  | some ad =>
    have hc : ∀ j u, (iv M)[j]? = some u → w.cell? (ad.add j) = some u := by
      intro j u hu
      have hj : j < n := by
        have := (List.getElem?_eq_some_iff.1 hu).1
        rwa [iv_len, hA.row.ln] at this
      obtain ⟨b, off, ha, _, hcc⟩ := hA.row.pos (by omega)
      simp at ha
      subst ha
      rw [iv_get M j (by rw [hA.row.ln]; exact hj)] at hu
      rw [addr_at, ← hu]
      exact hcc j hj
    obtain ⟨v', w', hr, h2, h3, h4, h5⟩ := run_append_own_at (P := Try.prog) w g 22 o.type 2 ti (.int .i64 0) 1 8 Try.underlying22 hi hz0 hz1 hz2 rfl (by decide) _ 0 (iv []) hown ad n c (iv M) (by rw [iv_len, hA.row.ln]; omega) hc (iv_one _) (by unfold maxLen; omega) (by omega) (by omega)
    rw [← iv_app] at h2
    simp only [Nat.zero_add, List.nil_append] at h2
    obtain ⟨g', c', rfl, q1, q2, q3, q4⟩ := own_row h2 (by intro e; rw [h4] at e; cases e.1)
    have h5' : g' = g ∨ g' = w.heap.size := by
      rcases h5 with e | e <;> simp [Value.ownBlock] at e
      · exact .inl e
      · exact .inr e
    unfold Oper.wp execOp
    simp only [ho, resolve, invoke, builtin, Sem.run_bind, Sem.run_pure, Result.andThen_ok, List.map_toArray, List.map_cons, List.map_nil, hs, hx, hr]
    exact h g' c' w' h5' q1 q4 h3 q2 q3
theorem two_new (w : World) (o1 o2 : Obj) : ((w.alloc o1).alloc o2).heap[w.heap.size]? = some o1 :=
  ((alloc_b (w.alloc o1) o2).block w.heap.size (by simp)).trans (heap_alloc_new w o1)
theorem second_new (w : World) (o1 o2 : Obj) : ((w.alloc o1).alloc o2).heap[w.heap.size + 1]? = some o2 := by
  have := heap_alloc_new (w.alloc o1) o2
  simpa using this
theorem make_eq (n : Nat) (hn : n * 8 ≤ 140737488355328) (w : World) : (Instr.makeSlice 22 (.int .i64 (n : Int)) (.int .i64 (n : Int))).run Try.prog w = .ok (.slice (some ⟨w.heap.size, 0, none⟩) n n) (w.alloc (.cells (iv (List.replicate n 0)).toArray 2 (0, 0))) := by
  obtain ⟨ti, hti, hz0, hz1, hz2⟩ := info_parts info2
  have hr := run_make (P := Try.prog) w 22 2 ti (.int .i64 0) Try.underlying22 hti hz0 .i64 .i64 (n : Int) (n : Int) (by omega) (Int.le_refl _) (by rw [hz2]; omega) (by omega)
  rw [hz1] at hr
  have hm : madeCells (Value.int .i64 0).cells ((n : Int).toNat * 1) = (iv (List.replicate n 0)).toArray := by
    rw [← aL_zero, ← made_aL [] n]; simp
  rw [hm] at hr
  simpa using hr
theorem zero_row {w : World} {g n : Nat} (h : w.heap[g]? = some (.cells (iv (List.replicate n 0)).toArray 2 (0, 0))) : Rw w g n (List.replicate n 0) :=
  ⟨_, h, fun i hi => by have := iv_get (List.replicate n 0) i (by simpa using hi); simpa using this⟩
def RNewP (w : World) (n : Nat) (Lm : List Int) (e : Ending) (w' : World) : Prop :=
  ∃ t eb, e = .returned (.pointer (some ⟨t, 0, none⟩)) ∧ Rt w.heap.size w' t eb Lm (List.replicate n 0) ∧ Below w.heap.size w w'
/-- A new table, from what lies where. -/
theorem rt_new {C : Nat} {w : World} {t eb g n c : Nat} {Lm : List Int} (hl : Lm.length = n) (hw : ∀ x ∈ Lm, (Lit.int .i64 x).wf = true) (ht : w.heap[t]? = some (.cells #[.slice (some ⟨g, 0, none⟩) n c, .slice (some ⟨eb, 0, none⟩) n n] 54 (0, 0))) (hg : Rw w g n Lm) (he : Rw w eb n (List.replicate n 0)) (h1 : C ≤ t) (h2 : C ≤ eb) (h3 : C ≤ g) (d1 : t ≠ eb) (d2 : g ≠ eb) (d3 : g ≠ t) (hn : n ≤ maxLen) :
    Rt C w t eb Lm (List.replicate n 0) := by
  obtain ⟨arr, q1, q2⟩ := hg
  refine ⟨h1, h2, d1, by simp [hl], fun x hx => by rw [List.mem_replicate] at hx; omega, ⟨_, c, n, by rw [hl]; exact ht, ⟨rfl, by rw [hl]; exact hn, hw, .inr ⟨g, 0, rfl, blk_lt q1, fun i hi => ?_⟩⟩, fun b off e _ => ?_, by rw [hl]; exact Nat.le_refl _, hn⟩, by rw [hl]; exact he⟩
  · simp [World.cell?, q1, q2 i (by omega)]
  · simp only [Option.some.injEq, Addr.mk.injEq, and_true] at e
    obtain ⟨rfl, _⟩ := e
    exact ⟨h3, d2, d3⟩
theorem Rw.below {w w' : World} {B g n : Nat} {E : List Int} (h : Rw w g n E) (hg : g < B) (hb : Below B w w') : Rw w' g n E := by
  obtain ⟨arr, q1, q2⟩ := h
  exact ⟨arr, (hb.block g hg).trans q1, q2⟩
theorem fin1 {w W0 w' : World} {g g' n c' : Nat} {Lm : List Int} (hl : Lm.length = n) (hw : ∀ x ∈ Lm, (Lit.int .i64 x).wf = true) (hn : n ≤ maxLen) (b0 : Below w.heap.size w W0) (hs : w.heap.size ≤ W0.heap.size) (hg : w.heap.size ≤ g) (hge : g ≤ g') (hrw : Rw w' g' n Lm) (hgr : W0.grownBy w' (some g)) :
    RNewP w n Lm (.returned (.pointer (some ⟨w'.heap.size + 1, 0, none⟩))) ((w'.alloc (.cells (iv (List.replicate n 0)).toArray 2 (0, 0))).alloc (.cells #[.slice (some ⟨g', 0, none⟩) n c', .slice (some ⟨w'.heap.size, 0, none⟩) n n] 54 (0, 0))) := by
  have b1 : Below w.heap.size w w' := b0.grown hgr hs (fun k hk => by simp at hk; omega)
  have s1 := b1.size
  have hlt : g' < w'.heap.size := by obtain ⟨arr, q1, _⟩ := hrw; exact blk_lt q1
  exact ⟨_, _, rfl, rt_new hl hw (second_new _ _ _) (hrw.below hlt (((Below.refl _ _).alloc (Nat.le_refl _) _).alloc (by simp) _)) (zero_row (two_new _ _ _)) (by omega) (by omega) (by omega) (by omega) (by omega) (by omega) hn, (b1.alloc s1 _).alloc (by simp; omega) _⟩
theorem fin2 {w W0 w' : World} {g g' eb n c' : Nat} {Lm : List Int} (hl : Lm.length = n) (hw : ∀ x ∈ Lm, (Lit.int .i64 x).wf = true) (hn : n ≤ maxLen) (b0 : Below w.heap.size w W0) (hs : w.heap.size ≤ W0.heap.size) (hg : w.heap.size ≤ g) (hge : g ≤ g') (hrw : Rw w' g' n Lm) (hgr : W0.grownBy w' (some g))
    (hz : W0.heap[eb]? = some (.cells (iv (List.replicate n 0)).toArray 2 (0, 0))) (heb : w.heap.size ≤ eb) (hne : eb ≠ g) (hgg : g' = g ∨ g' = W0.heap.size) :
    RNewP w n Lm (.returned (.pointer (some ⟨w'.heap.size, 0, none⟩))) (w'.alloc (.cells #[.slice (some ⟨g', 0, none⟩) n c', .slice (some ⟨eb, 0, none⟩) n n] 54 (0, 0))) := by
  have b1 : Below w.heap.size w w' := b0.grown hgr hs (fun k hk => by simp at hk; omega)
  have s1 := b1.size
  have hlt : g' < w'.heap.size := by obtain ⟨arr, q1, _⟩ := hrw; exact blk_lt q1
  have hlz := blk_lt hz
  have hz' : w'.heap[eb]? = some (.cells (iv (List.replicate n 0)).toArray 2 (0, 0)) := (hgr.block eb hlz (by intro e; cases e; exact hne rfl)).trans hz
  have hlz' := blk_lt hz'
  have al : Below w'.heap.size w' (w'.alloc (.cells #[.slice (some ⟨g', 0, none⟩) n c', .slice (some ⟨eb, 0, none⟩) n n] 54 (0, 0))) := alloc_b _ _
  exact ⟨_, _, rfl, rt_new hl hw (heap_alloc_new _ _) (hrw.below hlt al) ((zero_row hz').below hlz' al) (by omega) (by omega) (by omega) (by omega) (by omega) (by omega) hn, b1.alloc s1 _⟩
set_option maxRecDepth 100000 in
set_option maxHeartbeats 4000000 in
theorem rnew_any (a : Option Addr) (n c : Nat) (Lm : List Int) (w : World) (h : ArgI w a n c Lm) (hn : n * 8 ≤ 140737488355328) :
    Calls Try.prog 9 #[.slice a n c] w (RNewP w n Lm) := by
  have hl := h.row.ln
  have A1 := Lib.hid (fun x => h.below (((Below.refl w.heap.size w).drew).alloc (Nat.le_refl _) x))
  have A2 := Lib.hid (fun x y => h.below ((((Below.refl w.heap.size w).drew).alloc (Nat.le_refl _) x).alloc (by simp) y))
  have hmk := make_eq n hn
  have H := Lib.hid h
  clear h
  go_enter Try.func9, Try.ntmps9
  go_wp2_with fail
  go_region_law (refine step_app_ir rfl (.tmp 3) (.tmp 4) rfl _ _ rfl (by first | exact heap_alloc_new _ _ | exact second_new _ _ _ | exact two_new _ _ _) a n c Lm rfl (by first | exact A2.out _ _ | exact A1.out _) hn ?_; intro g' c' w' hgg hge hrw hgr hc1 hc2)
  all_goals
    go_wp2_with fail
    go_ret
  all_goals
    have b2 : ∀ x, Below w.heap.size w (w.alloc x).drew := fun x => ((Below.refl _ _).alloc (Nat.le_refl _) _).drew
    have b3 : ∀ x y, Below w.heap.size w ((w.alloc x).alloc y).drew := fun x y => (((Below.refl _ _).alloc (Nat.le_refl _) _).alloc (by simp) _).drew
    first
      | exact fin1 hl H.out.row.wf (by unfold maxLen; omega) (b2 _) (b2 _).size (Nat.le_refl _) hge hrw hgr
      | exact fin2 hl H.out.row.wf (by unfold maxLen; omega) (b3 _ _) (b3 _ _).size (Nat.le_refl _) hge hrw hgr (second_new _ _ _) (Nat.le_succ _) (by omega) hgg
      | exact fin2 hl H.out.row.wf (by unfold maxLen; omega) (b3 _ _) (b3 _ _).size (Nat.le_succ _) hge hrw hgr (two_new _ _ _) (Nat.le_refl _) (by omega) hgg
end Go.Proofs.Ytfloceoopjokcaa
