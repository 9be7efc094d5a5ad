/- The document's New; great. -/
import Derived.Test.YteakbijlcccnnaaL
namespace Go.Proofs.Yteakbijlcccnnaa
set_option linter.unusedVariables false
open Go.ChangeShapes Go.WideShapes Go.ChangeAt Go.RowKit

theorem own_row {w : World} {B n : Nat} {v : Value} {L : List Int} (h : w.ownsRow B 3 1 v n (iv L)) (hne : v ≠ .slice none 0 0) : ∃ g c, v = .slice (some ⟨g, 0, none⟩) n c ∧ B ≤ g ∧ n ≤ c ∧ c ≤ maxLen ∧ Gb w g n L := by
  obtain ⟨hl, ⟨hv, h0⟩ | ⟨g, cap, cur, hv, hg, hb, hl', hm, hs, ht⟩⟩ := h
  · exact absurd hv hne
  · have hn : L.length = n := by simpa [iv_len] using hl
    refine ⟨g, cap, hv, hg, hl', hm, cur, hb, fun i hi => ?_⟩
    have h1 : (cur.toList.take (n * 1))[i]? = (iv L)[i]? := by rw [ht]
    rw [List.getElem?_take_of_lt (by omega), iv_get L i (by omega)] at h1
    rw [← Array.getElem?_toList, h1]; rfl
/-- Numbers behind a new empty row, as one step of a region that draws. -/
theorem step_app_ir {ops : Array Oper} {o : Oper} {a : Act} {K : Act → World → Prop} {Q : Exit → Act → World → Prop} {E : Prop} (hgd : o.guard = none) (s x : Operand)
    (ho : o.op = .call { callee := .builtin .append, args := #[s, x], argTypes := #[22, 22] }) (w : World) (g : Nat) (hs : a.eval s = .slice (some ⟨g, 0, none⟩) 0 0) (hg : w.heap[g]? = some (.cells #[] 3 (0, 0)))
    (ad : Option Addr) (n c : Nat) (M : List Int) (hx : a.eval x = .slice ad n c) (hA : ArgI w ad n c M) (hle : n * 8 ≤ 140737488355328)
    (h : ∀ g' c' w', (g' = g ∨ g' = w.heap.size) → g ≤ g' → Gb w' g' n M → w.grownBy w' (some g) → n ≤ c' → c' ≤ maxLen → K (a.put o.dst (.slice (some ⟨g', 0, none⟩) n c')) w') :
    if Region.wanted o (yielded ops a.tmps) = true then Oper.wp Try.prog o a w K Q else E := by
  have hw : Region.wanted o (yielded ops a.tmps) = true := by simp [Region.wanted, hgd]
  rw [if_pos hw]
  obtain ⟨ti, hi, hz0, hz1, hz2⟩ := info_parts info3
  have hglt : g < w.heap.size := blk_lt hg
  have hown : w.ownsRow g 3 1 (.slice (some ⟨g, 0, none⟩) 0 0) 0 (iv []) := ⟨rfl, .inr ⟨g, 0, #[], rfl, Nat.le_refl _, hg, Nat.le_refl _, Nat.zero_le _, rfl, rfl⟩⟩
  cases ad with
  | none =>
    obtain ⟨rfl, rfl⟩ := hA.nil rfl
    have hrun := run_append_owned_none (P := Try.prog) (w := w) g 22 o.type 3 ti 1 Try.underlying22 hi _ 0 (iv []) hown
    unfold Oper.wp
    simp [execOp, ho, resolve, invoke, builtin, hs, hx, hrun, Result.andThen]
    exact h g 0 w (.inl rfl) (Nat.le_refl _) ⟨#[], hg, fun i hi => by omega⟩ ⟨rfl, rfl, rfl, Nat.le_refl _, fun _ _ _ => rfl⟩ (Nat.le_refl _) (Nat.zero_le _)
  | some ad =>
    have hc : ∀ j u, (iv M)[j]? = some u → w.cell? (ad.add j) = some u := by
      intro j u hu
      have hj : j < n := by
        have := (List.getElem?_eq_some_iff.1 hu).1
        rwa [iv_len, hA.row.ln] at this
      obtain ⟨b, off, ha, _, hcc⟩ := hA.row.pos (by omega)
      simp at ha
      subst ha
      rw [iv_get M j (by rw [hA.row.ln]; exact hj)] at hu
      rw [addr_at, ← hu]
      exact hcc j hj
    obtain ⟨v', w', hr, h2, h3, h4, h5⟩ := run_append_own_at (P := Try.prog) w g 22 o.type 3 ti (.int .i64 0) 1 8 Try.underlying22 hi hz0 hz1 hz2 rfl (by decide) _ 0 (iv []) hown ad n c (iv M) (by rw [iv_len, hA.row.ln]; omega) hc (iv_one _) (by unfold maxLen; omega) (by omega) (by omega)
    rw [← iv_app] at h2
    simp only [Nat.zero_add, List.nil_append] at h2
    obtain ⟨g', c', rfl, q1, q2, q3, q4⟩ := own_row h2 (by intro e; rw [h4] at e; cases e.1)
    have h5' : g' = g ∨ g' = w.heap.size := by
      rcases h5 with e | e <;> simp [Value.ownBlock] at e
      · exact .inl e
      · exact .inr e
    unfold Oper.wp execOp
    simp only [ho, resolve, invoke, builtin, Sem.run_bind, Sem.run_pure, Result.andThen_ok, List.map_toArray, List.map_cons, List.map_nil, hs, hx, hr]
    exact h g' c' w' h5' q1 q4 h3 q2 q3
theorem two_new (w : World) (o1 o2 : Obj) : ((w.alloc o1).alloc o2).heap[w.heap.size]? = some o1 :=
  ((alloc_b (w.alloc o1) o2).block w.heap.size (by simp)).trans (heap_alloc_new w o1)
theorem second_new (w : World) (o1 o2 : Obj) : ((w.alloc o1).alloc o2).heap[w.heap.size + 1]? = some o2 := by
  have := heap_alloc_new (w.alloc o1) o2
  simpa using this
theorem zero_row {w : World} {g n : Nat} (h : w.heap[g]? = some (.cells (zc n) 37 (0, 0))) : Lb w g n (List.replicate n La.z) :=
  ⟨_, h, fun i hi => by rw [rep_sg]; exact zc_at n i hi⟩
def RNewP (w : World) (n : Nat) (G : List Int) (e : Ending) (w' : World) : Prop :=
  ∃ t gb eb, e = .returned (.pointer (some ⟨t, 0, none⟩)) ∧ Rt w.heap.size w' t gb eb n G (List.replicate n La.z) ∧ Below w.heap.size w w'
theorem rt_new {C : Nat} {w : World} {t eb g n c : Nat} {G : List Int} (hl : G.length = n) (hw : ∀ x ∈ G, (Lit.int .i64 x).wf = true) (ht : w.heap[t]? = some (.cells #[.slice (some ⟨g, 0, none⟩) n c, .slice (some ⟨eb, 0, none⟩) n n] 52 (0, 0))) (hg : Gb w g n G) (he : Lb w eb n (List.replicate n La.z)) (h1 : C ≤ t) (h2 : C ≤ eb) (hn : n ≤ maxLen) (hc : n ≤ c) (hcm : c ≤ maxLen) :
    Rt C w t g eb n G (List.replicate n La.z) :=
  ⟨h1, h2, hl, hn, fun i => getD_wf hw i, fun i => by rw [rep_sg]; decide, by rw [← hl]; exact new_ok G, ⟨_, c, n, ht, fun _ => rfl, hc, Nat.le_refl _, hcm, hn⟩, fun _ => hg, he⟩
theorem fin1 {w W0 w' : World} {g g' n c' : Nat} {G : List Int} (hl : G.length = n) (hw : ∀ x ∈ G, (Lit.int .i64 x).wf = true) (hn : n ≤ maxLen) (b0 : Below w.heap.size w W0) (hs : w.heap.size ≤ W0.heap.size) (hg : w.heap.size ≤ g) (hge : g ≤ g') (hrw : Gb w' g' n G) (hgr : W0.grownBy w' (some g)) (hc1 : n ≤ c') (hc2 : c' ≤ maxLen) :
    RNewP w n G (.returned (.pointer (some ⟨w'.heap.size + 1, 0, none⟩))) ((w'.alloc (.cells (zc n) 37 (0, 0))).alloc (.cells #[.slice (some ⟨g', 0, none⟩) n c', .slice (some ⟨w'.heap.size, 0, none⟩) n n] 52 (0, 0))) := by
  have b1 : Below w.heap.size w w' := b0.grown hgr hs (fun k hk => by simp at hk; omega)
  have s1 := b1.size
  have hb2 : Below w'.heap.size w' ((w'.alloc (.cells (zc n) 37 (0, 0))).alloc (.cells #[.slice (some ⟨g', 0, none⟩) n c', .slice (some ⟨w'.heap.size, 0, none⟩) n n] 52 (0, 0))) := ((Below.refl _ _).alloc (Nat.le_refl _) _).alloc (by simp) _
  exact ⟨_, _, _, rfl, rt_new hl hw (second_new _ _ _) (hrw.same (hb2.block _ hrw.lt)) (zero_row (two_new _ _ _)) (by omega) (by omega) hn hc1 hc2, (b1.alloc s1 _).alloc (by simp; omega) _⟩
theorem fin2 {w W0 w' : World} {g g' eb n c' : Nat} {G : List Int} (hl : G.length = n) (hw : ∀ x ∈ G, (Lit.int .i64 x).wf = true) (hn : n ≤ maxLen) (b0 : Below w.heap.size w W0) (hs : w.heap.size ≤ W0.heap.size) (hg : w.heap.size ≤ g) (hge : g ≤ g') (hrw : Gb w' g' n G) (hgr : W0.grownBy w' (some g)) (hc1 : n ≤ c') (hc2 : c' ≤ maxLen)
    (hz : W0.heap[eb]? = some (.cells (zc n) 37 (0, 0))) (heb : w.heap.size ≤ eb) (hne : eb ≠ g) :
    RNewP w n G (.returned (.pointer (some ⟨w'.heap.size, 0, none⟩))) (w'.alloc (.cells #[.slice (some ⟨g', 0, none⟩) n c', .slice (some ⟨eb, 0, none⟩) n n] 52 (0, 0))) := by
  have b1 : Below w.heap.size w w' := b0.grown hgr hs (fun k hk => by simp at hk; omega)
  have s1 := b1.size
  have hlz := blk_lt hz
  have hz' : w'.heap[eb]? = some (.cells (zc n) 37 (0, 0)) := (hgr.block eb hlz (by intro e; cases e; exact hne rfl)).trans hz
  have al := alloc_b w' (.cells #[.slice (some ⟨g', 0, none⟩) n c', .slice (some ⟨eb, 0, none⟩) n n] 52 (0, 0))
  exact ⟨_, _, _, rfl, rt_new hl hw (heap_alloc_new _ _) (hrw.same (al.block _ hrw.lt)) ((zero_row hz').same (al.block _ (blk_lt hz'))) (by omega) (by omega) hn hc1 hc2, b1.alloc s1 _⟩
set_option maxRecDepth 100000 in
set_option maxHeartbeats 4000000 in
theorem rnew_any (a : Option Addr) (n c : Nat) (G : List Int) (w : World) (h : ArgI w a n c G) (hn : n ≤ 2000000) :
    Calls Try.prog 8 #[.slice a n c] w (RNewP w n G) := by
  have hl := h.row.ln
  have A1 := Lib.hid (fun x => h.below (((Below.refl w.heap.size w).drew).alloc (Nat.le_refl _) x))
  have A2 := Lib.hid (fun x y => h.below ((((Below.refl w.heap.size w).drew).alloc (Nat.le_refl _) x).alloc (by simp) y))
  have hmk := make_eq n hn
  have H := Lib.hid h
  clear h
  go_enter Try.func8, Try.ntmps8
  go_wp2_with fail
  go_region_law (refine step_app_ir rfl (.tmp 3) (.tmp 4) rfl _ _ rfl (by first | exact heap_alloc_new _ _ | exact second_new _ _ _ | exact two_new _ _ _) a n c G rfl (by first | exact A2.out _ _ | exact A1.out _) (by omega) ?_; intro g' c' w' hgg hge hrw hgr hc1 hc2)
  all_goals
    go_wp2_with fail
    go_ret
  all_goals
    have b2 : ∀ x, Below w.heap.size w (w.alloc x).drew := fun x => ((Below.refl _ _).alloc (Nat.le_refl _) _).drew
    have b3 : ∀ x y, Below w.heap.size w ((w.alloc x).alloc y).drew := fun x y => (((Below.refl _ _).alloc (Nat.le_refl _) _).alloc (by simp) _).drew
    first
      | exact fin1 hl H.out.row.wf (by unfold maxLen; omega) (b2 _) (b2 _).size (Nat.le_refl _) hge hrw hgr hc1 hc2
      | exact fin2 hl H.out.row.wf (by unfold maxLen; omega) (b3 _ _) (b3 _ _).size (Nat.le_refl _) hge hrw hgr hc1 hc2 (second_new _ _ _) (Nat.le_succ _) (by omega)
      | exact fin2 hl H.out.row.wf (by unfold maxLen; omega) (b3 _ _) (b3 _ _).size (Nat.le_succ _) hge hrw hgr hc1 hc2 (two_new _ _ _) (Nat.le_refl _) (by omega)
end Go.Proofs.Yteakbijlcccnnaa
