/- Cut. -/
import Derived.Test.YtnihgpaandodjaaPc
import Derived.Maps.AppendAt
import Derived.Laws.AppendOwnNone
namespace Go.Proofs.Ytnihgpaandodjaa
set_option linter.unusedVariables false
open Go.ChangeShapes Go.WideShapes Go.ChangeAt Go.RowKit Go.Shelf
attribute [local go_sem] Oper.semAt_some

theorem info25 : (Try.prog.info? 25).map (fun i => (i.zero, i.size, i.bytes)) = some (some (.agg #[.int .u16 0, .int .u8 0, .slice none 0 0]), 3, 32) := by kernel_rfl
def fcl (f : Fd) : List Value := [.int .u16 (f.id : Int), .int .u8 (f.u : Int), .slice (some ⟨f.g, 0, none⟩) f.P.length f.P.length]
def acl (F : List Fd) : List Value := F.flatMap fcl
theorem acl_len (F : List Fd) : (acl F).length = F.length * 3 := by
  induction F with
  | nil => rfl
  | cons x F ih => simp only [acl, List.flatMap_cons, List.length_append] at ih ⊢; rw [ih]; simp [fcl]; omega
theorem acl_app (F G : List Fd) : acl (F ++ G) = acl F ++ acl G := by simp [acl]
theorem acl_one (f : Fd) : acl [f] = fcl f := by simp [acl]
/-- All cells lie as they lay. -/
def Cs (A B : World) : Prop := ∀ (k : Nat) (cs : Array Value) (t : TypeId) (m : Nat × Nat), A.heap[k]? = some (.cells cs t m) → B.heap[k]? = some (.cells cs t m)
theorem Cs.below {A B : World} (h : Below A.heap.size A B) : Cs A B := fun k cs t m hk => low_of h hk
theorem Cs.put {A : World} {l : Nat} {o : Obj} (o' : Obj) (h : A.heap[l]? = some o) (ho : o.isCells = false) : Cs A (A.putObj l o') := fun k cs t m hk => by
  have hne : k ≠ l := by rintro rfl; rw [h] at hk; cases hk; cases ho
  exact (World.putObj_heap_other hne).trans hk
theorem own_cs {A B : World} (h : Cs A B) {b e sz n : Nat} {v : Value} {L : List Value} (hs : A.ownsRow b e sz v n L) : B.ownsRow b e sz v n L := by
  obtain ⟨hl, q | ⟨g, cap, cur, hv, hg, hb, r⟩⟩ := hs
  · exact ⟨hl, .inl q⟩
  · exact ⟨hl, .inr ⟨g, cap, cur, hv, hg, h _ _ _ _ hb, r⟩⟩
/-- The frames lie where they are said to. -/
def Lie (s : Nat) (F : List Fd) (W : World) : Prop := ∀ f ∈ F, f.ok ∧ s ≤ f.g ∧ W.heap[f.g]? = some (.cells (bv f.P).toArray 5 (0, 0))
theorem Lie.cs {s : Nat} {F : List Fd} {A B : World} (h : Lie s F A) (hc : Cs A B) : Lie s F B := fun f hf => ⟨(h f hf).1, (h f hf).2.1, hc _ _ _ _ (h f hf).2.2⟩
/-- Between two rounds. -/
def Icut (w : World) (F : List Fd) (W : World) : Prop :=
  (∃ v, W.heap[w.heap.size + 3]? = some (.cells #[v] 28 (0, 0)) ∧ W.ownsRow w.heap.size 25 3 v F.length (acl F)) ∧ W.heap[w.heap.size + 4]? = some (.cells #[.int .i64 ((fb F).length : Int)] 3 (0, 0)) ∧
  W.heap[w.heap.size]? = some (.cells #[.slice none 0 0] 28 (0, 0)) ∧ W.heap[w.heap.size + 1]? = some (.cells #[.int .i64 0] 3 (0, 0)) ∧ W.heap[w.heap.size + 2]? = some (.cells #[.int .i64 0] 29 (0, 0)) ∧
  Lie w.heap.size F W ∧ Below w.heap.size w W
theorem Icut.cs {w : World} {F : List Fd} {A B : World} (h : Icut w F A) (hc : Cs A B) (hb : Below w.heap.size A B) : Icut w F B := by
  obtain ⟨⟨v, h1, h2⟩, h3, h4, h5, h6, h7, h8⟩ := h
  exact ⟨⟨v, hc _ _ _ _ h1, own_cs hc h2⟩, hc _ _ _ _ h3, hc _ _ _ _ h4, hc _ _ _ _ h5, hc _ _ _ _ h6, h7.cs hc, h8.trans hb⟩
/-- What lies where an error ends it. -/
def Xcut (w : World) (L : List Nat) (W : World) : Prop :=
  ∃ F R v, L = fb F ++ R ∧ firstR R = .bad ∧ W.heap[w.heap.size]? = some (.cells #[v] 28 (0, 0)) ∧ W.ownsRow w.heap.size 25 3 v F.length (acl F) ∧ W.heap[w.heap.size + 1]? = some (.cells #[.int .i64 ((fb F).length : Int)] 3 (0, 0)) ∧
  W.heap[w.heap.size + 2]? = some (.cells #[.int .i64 31] 29 (0, 0)) ∧ Lie w.heap.size F W ∧ Below w.heap.size w W
theorem Xcut.cs {w : World} {L : List Nat} {A B : World} (h : Xcut w L A) (hc : Cs A B) (hb : Below w.heap.size A B) : Xcut w L B := by
  obtain ⟨F, R, v, h1, h2, h3, h4, h5, h6, h7, h8⟩ := h
  exact ⟨F, R, v, h1, h2, hc _ _ _ _ h3, own_cs hc h4, hc _ _ _ _ h5, hc _ _ _ _ h6, h7.cs hc, h8.trans hb⟩
def CutP (w : World) (L : List Nat) (e : Ending) (W : World) : Prop :=
  ∃ F R v, e = .returned (.tuple #[v, .int .i64 ((fb F).length : Int), .int .i64 (firstE R : Nat)]) ∧ L = fb F ++ R ∧ firstN R = 0 ∧ W.ownsRow w.heap.size 25 3 v F.length (acl F) ∧ Lie w.heap.size F W ∧ Below w.heap.size w W
theorem pieces_any (a : Option Addr) (len cap : Nat) (w : World) :
    Calls Try.prog 21 #[.slice a len cap] w fun e w' => e = .returned (.func (.func 22) #[] #[.pointer (some ⟨w.heap.size, 0, none⟩)]) ∧ w' = w.alloc (.cells #[.slice a len cap] 23 (0, 0)) := by
  go_enter Try.func21, Try.ntmps21
  go_wp2_with fail
  go_ret
  exact ⟨rfl, rfl⟩
theorem bel_put {s : Nat} {wl W : World} {l : Nat} {o : Obj} (o' : Obj) (hs : s ≤ wl.heap.size) (hl : wl.heap.size ≤ l) (h : W.heap[l]? = some o) : Below s W (W.putObj l o') :=
  (Below.refl s W).grown (grownBy_putObj' W l o') (by have := blk_lt h; omega) (fun k e => by cases e; omega)
theorem some_inj : ∀ {F G : List Fd}, F.map some = G.map some → F = G
  | [], [], _ => rfl
  | [], _ :: _, h => by cases h
  | _ :: _, [], h => by cases h
  | a :: F, b :: G, h => by
    simp only [List.map_cons, List.cons.injEq, Option.some.injEq] at h
    rw [h.1, some_inj h.2]
theorem own_form {W : World} {b e sz n : Nat} {v : Value} {L : List Value} (h : W.ownsRow b e sz v n L) : ∃ va vn vc, v = .slice va vn vc := by
  rcases h.2 with ⟨h, _⟩ | ⟨g, cap, cur, h, _⟩
  · exact ⟨none, 0, 0, h⟩
  · exact ⟨_, _, _, h⟩
theorem set_at {W : World} {p : Nat} {t : TypeId} {m : Nat × Nat} {x : Value} (h : W.heap[p]? = some (.cells #[x] t m)) (u : Value) : (W.setCell ⟨p, 0, none⟩ u).heap[p]? = some (.cells #[u] t m) := by
  simp [World.setCell, Array.getElem?_modify, h]
theorem set_far {W : World} {p k i : Nat} {o : Obj} {u : Value} (h : W.heap[k]? = some o) (hne : k ≠ p) : (W.setCell ⟨p, i, none⟩ u).heap[k]? = some o := (Below.heap_setCell _ _ _ _ hne).trans h
theorem Lie.set {s : Nat} {F : List Fd} {W : World} {p i : Nat} {cs : Array Value} {t : TypeId} {m : Nat × Nat} {u : Value} (h : Lie s F W) (hp : W.heap[p]? = some (.cells cs t m)) (ht : t ≠ 5) : Lie s F (W.setCell ⟨p, i, none⟩ u) := fun f hf => by
  obtain ⟨h1, h2, h3⟩ := h f hf
  refine ⟨h1, h2, set_far h3 ?_⟩
  rintro rfl
  rw [h3] at hp
  simp at hp
  exact ht hp.2.1.symm
theorem own_setC {W : World} {b e sz n : Nat} {v : Value} {L : List Value} {p i : Nat} {cs : Array Value} {t : TypeId} {m : Nat × Nat} {u : Value} (h : W.ownsRow b e sz v n L) (hp : W.heap[p]? = some (.cells cs t m)) (ht : t ≠ e) : (W.setCell ⟨p, i, none⟩ u).ownsRow b e sz v n L := by
  obtain ⟨hl, q | ⟨g, cap, cur, hv, hg, hb, r⟩⟩ := h
  · exact ⟨hl, .inl q⟩
  · refine ⟨hl, .inr ⟨g, cap, cur, hv, hg, set_far hb ?_, r⟩⟩
    rintro rfl
    rw [hb] at hp
    simp at hp
    exact ht hp.2.1.symm
theorem bel_set {s : Nat} {W : World} {p i : Nat} {u : Value} (hp : s ≤ p) : Below s W (W.setCell ⟨p, i, none⟩ u) :=
  ⟨rfl, rfl, rfl, by simp [World.setCell], fun k hk => Below.heap_setCell _ _ _ _ (show k ≠ p by omega)⟩
theorem grow_far {W w1 : World} {o : Obj} {b n : Nat} {v : Value} {L : List Value} {k : Nat} {cs : Array Value} {t : TypeId} {m : Nat × Nat} (ho : W.ownsRow b 25 3 v n L) (hg : (W.alloc o).grownBy w1 v.ownBlock) (hk : W.heap[k]? = some (.cells cs t m)) (ht : t ≠ 25) : w1.heap[k]? = some (.cells cs t m) := by
  have hlt := blk_lt hk
  refine (hg.block k (by simp; omega) (fun e => ?_)).trans (low_of (alB W o) hk)
  rcases ho.2 with ⟨rfl, _⟩ | ⟨g, cap, cur, hv, _, hb, _⟩
  · simp [Value.ownBlock] at e
  · subst hv
    simp [Value.ownBlock] at e
    subst e
    rw [hb] at hk
    simp at hk
    exact ht hk.2.1.symm
theorem fb_count (F : List Fd) : F.length ≤ (fb F).length := by
  induction F with
  | nil => exact Nat.zero_le _
  | cons x F ih => simp only [fb, List.flatMap_cons, List.length_append, putL_len, List.length_cons] at ih ⊢; omega
theorem at_new (w : World) (o : Obj) {r : Nat} (h : r = w.heap.size) : (w.alloc o).heap[r]? = some o := by subst h; exact heap_alloc_new w o
theorem keep_new {w : World} {o x : Obj} {r : Nat} (h : w.heap[r]? = some x) : (w.alloc o).heap[r]? = some x := low_of (alB w o) h
def IC (w : World) (pre : List (Option Fd)) (W : World) : Prop := ∃ F : List Fd, pre = F.map some ∧ Icut w F W
def XC (w : World) (L : List Nat) (c : Code) (pre : List (Option Fd)) (W : World) : Prop := c = .ret ∧ Xcut w L W
theorem Hpc.cs {L : List Nat} {n₀ : Nat} {pre : List (Option Fd)} {x : Option Fd} {A B : World} (h : Hpc L n₀ pre x A) (hc : Cs A B) : Hpc L n₀ pre x B := by
  obtain ⟨F, R, h1, h2, h3, h4⟩ := h
  refine ⟨F, R, h1, h2, h3, ?_⟩
  cases x with
  | none => exact h4
  | some f => exact ⟨h4.1, h4.2.1, h4.2.2.1, h4.2.2.2.1, hc _ _ _ _ h4.2.2.2.2⟩
def pcC (x : Option Fd) : Array Value := match pcV x with
  | .agg cs => cs
  | _ => #[]
/-- The frame of Cut in a round: the piece's box is Bx. -/
def actC (a : Option Addr) (len cap r0 r1 r2 r3 r4 r5 Bx : Nat) (x : Option Fd) : Act :=
  { tmps := #[.slice a len cap, undef, .pointer (some ⟨r0, 0, none⟩), .pointer (some ⟨r1, 0, none⟩), .pointer (some ⟨r2, 0, none⟩), .pointer (some ⟨r3, 0, none⟩), .pointer (some ⟨r4, 0, none⟩), .pointer (some ⟨Bx, 0, none⟩), .slice a len cap, .func (.func 22) #[] #[.pointer (some ⟨r5, 0, none⟩)], pcV x,
    undef, undef, undef, undef, undef, undef, undef, undef, undef, undef, undef, undef, undef, undef, undef, undef, undef, undef], defers := [] }
def RC (w : World) (L : List Nat) (a : Option Addr) (len cap r1 r2 r3 r4 r5 : Nat) (pre : List (Option Fd)) (x : Option Fd) (a' : Act) (W : World) : Prop :=
  ∃ (F : List Fd) (Bx : Nat), pre = F.map some ∧ Icut w F W ∧ Hpc L w.heap.size pre x W ∧ w.heap.size + 5 ≤ Bx ∧ W.heap[Bx]? = some (.cells (pcC x) 47 (0, 0)) ∧ a' = actC a len cap w.heap.size r1 r2 r3 r4 r5 Bx x
theorem IC.cs {w : World} {pre : List (Option Fd)} {A B : World} (h : IC w pre A) (hc : Cs A B) (hb : Below w.heap.size A B) : IC w pre B := by
  obtain ⟨F, h1, h2⟩ := h; exact ⟨F, h1, h2.cs hc hb⟩
theorem IC.size {w : World} {pre : List (Option Fd)} {A : World} (h : IC w pre A) : w.heap.size ≤ A.heap.size := by
  obtain ⟨F, h1, h2⟩ := h; exact h2.2.2.2.2.2.2.size
theorem XC.cs {w : World} {L : List Nat} {c : Code} {pre : List (Option Fd)} {A B : World} (h : XC w L c pre A) (hc : Cs A B) (hb : Below w.heap.size A B) : XC w L c pre B := ⟨h.1, h.2.cs hc hb⟩
theorem XC.size {w : World} {L : List Nat} {c : Code} {pre : List (Option Fd)} {A : World} (h : XC w L c pre A) : w.heap.size ≤ A.heap.size := by
  obtain ⟨_, _, _, _, _, _, _, _, _, _, _, q⟩ := h; exact q.size
theorem RC.cs {w : World} {L : List Nat} {a : Option Addr} {len cap r1 r2 r3 r4 r5 : Nat} {pre : List (Option Fd)} {x : Option Fd} {a' : Act} {A B : World} (h : RC w L a len cap r1 r2 r3 r4 r5 pre x a' A) (hc : Cs A B) (hb : Below w.heap.size A B) : RC w L a len cap r1 r2 r3 r4 r5 pre x a' B := by
  obtain ⟨F, Bx, h1, h2, h3, h4, h5, h6⟩ := h
  exact ⟨F, Bx, h1, h2.cs hc hb, h3.cs hc, h4, hc _ _ _ _ h5, h6⟩
set_option maxRecDepth 100000 in
set_option maxHeartbeats 8000000 in
theorem cut_any (a : Option Addr) (len cap : Nat) (L : List Nat) (w : World) (h : Bys w a len L) (hcap : len ≤ cap) (hcm : cap ≤ maxLen) (hn : len ≤ 100000) :
    Calls Try.prog 13 #[.slice a len cap] w (CutP w L) := by
  have hlow : ∀ b off, a = some ⟨b, off, none⟩ → 0 < len → b < w.heap.size := by
    intro b off e h0
    obtain ⟨b', off', e', hb, _⟩ := h.pos h0
    rw [e] at e'; simp only [Option.some.injEq, Addr.mk.injEq, and_true] at e'; omega
  have B0 := Lib.hid h
  have LW := Lib.hid hlow
  clear h hlow
  refine (callsIn_wide (n := 3)).1 ?_
  refine callsIn_of_wp_marks Try.func13 rfl trivial ?_ rfl
  simp only [Try.ntmps13, List.size_toArray, List.length_cons, List.length_nil, Nat.reduceAdd, Nat.reduceSub, Array.replicate_succ, Array.replicate_zero, List.push_toArray, List.append_toArray, List.nil_append, List.cons_append]
  gi_wp2
  refine ⟨trivial, ?_⟩
  refine (callsIn_wide.2 (pieces_any a len cap _)).mono ?_
  rintro e w' ⟨rfl, rfl⟩
  have hb5 : Below w.heap.size w (((((w.alloc (.cells #[.slice none 0 0] 28 (0, 0))).alloc (.cells #[.int .i64 0] 3 (0, 0))).alloc (.cells #[.int .i64 0] 29 (0, 0))).alloc (.cells #[.slice none 0 0] 28 (0, 0))).alloc (.cells #[.int .i64 0] 3 (0, 0))) :=
    (((((Below.refl _ w).alloc (Nat.le_refl _) _).alloc (by simp) _).alloc (by simp; omega) _).alloc (by simp; omega) _).alloc (by simp; omega) _
  obtain ⟨w5, hw5⟩ : ∃ W, W = ((((w.alloc (.cells #[.slice none 0 0] 28 (0, 0))).alloc (.cells #[.int .i64 0] 3 (0, 0))).alloc (.cells #[.int .i64 0] 29 (0, 0))).alloc (.cells #[.slice none 0 0] 28 (0, 0))).alloc (.cells #[.int .i64 0] 3 (0, 0)) := ⟨_, rfl⟩
  have k0 : w5.heap[w.heap.size]? = some (.cells #[.slice none 0 0] 28 (0, 0)) := by rw [hw5]; exact keep_new (keep_new (keep_new (keep_new (at_new _ _ rfl))))
  have k1 : w5.heap[w.heap.size + 1]? = some (.cells #[.int .i64 0] 3 (0, 0)) := by rw [hw5]; exact keep_new (keep_new (keep_new (at_new _ _ (by simp))))
  have k2 : w5.heap[w.heap.size + 2]? = some (.cells #[.int .i64 0] 29 (0, 0)) := by rw [hw5]; exact keep_new (keep_new (at_new _ _ (by simp)))
  have k3 : w5.heap[w.heap.size + 3]? = some (.cells #[.slice none 0 0] 28 (0, 0)) := by rw [hw5]; exact keep_new (at_new _ _ (by simp))
  have k4 : w5.heap[w.heap.size + 4]? = some (.cells #[.int .i64 0] 3 (0, 0)) := by rw [hw5]; exact at_new _ _ (by simp)
  have kz : w5.heap.size = w.heap.size + 5 := by rw [hw5]; simp
  rw [← hw5] at hb5 ⊢
  clear hw5
  have hb6 : Below w.heap.size w (w5.alloc (.cells #[.slice a len cap] 23 (0, 0))) := hb5.alloc hb5.size _
  have k5 : (w5.alloc (.cells #[.slice a len cap] 23 (0, 0))).heap[w5.heap.size]? = some (.cells #[.slice a len cap] 23 (0, 0)) := heap_alloc_new _ _
  have c56 := Cs.below (alB w5 (.cells #[.slice a len cap] 23 (0, 0)))
  have hz6 : (w5.alloc (.cells #[.slice a len cap] 23 (0, 0))).heap.size = w.heap.size + 6 := by simp [kz]
  obtain ⟨wl, hwl⟩ : ∃ W, W = w5.alloc (.cells #[.slice a len cap] 23 (0, 0)) := ⟨_, rfl⟩
  rw [← hwl] at hb6 k5 c56 hz6 ⊢
  clear hwl
  have hI0 : Icut w [] wl := ⟨⟨_, c56 _ _ _ _ k3, rfl, .inl ⟨rfl, rfl⟩⟩, c56 _ _ _ _ k4, c56 _ _ _ _ k0, c56 _ _ _ _ k1, c56 _ _ _ _ k2, (fun f hf => by cases hf), hb6⟩
  have I0 := Lib.hid hI0
  have hB6 := Lib.hid (B0.out.below hb6)
  have c5 : wl.cell? ⟨w5.heap.size, 0, none⟩ = some (.slice a len cap) := by simp [World.cell?, k5]
  obtain ⟨r1, e1⟩ : ∃ r, r = w.heap.size + 1 := ⟨_, rfl⟩
  obtain ⟨r2, e2⟩ : ∃ r, r = w.heap.size + 1 + 1 := ⟨_, rfl⟩
  obtain ⟨r3, e3⟩ : ∃ r, r = w.heap.size + 1 + 1 + 1 := ⟨_, rfl⟩
  obtain ⟨r4, e4⟩ : ∃ r, r = w.heap.size + 1 + 1 + 1 + 1 := ⟨_, rfl⟩
  obtain ⟨r5, e5⟩ : ∃ r, r = w5.heap.size := ⟨_, rfl⟩
  rw [← e4, ← e3, ← e2, ← e1, ← e5]
  clear k0 k1 k2 k3 k4 k5 c56 hb5 hI0
  rw [← e5] at c5 kz
  have E1 := Lib.hid e1
  have E2 := Lib.hid e2
  have E3 := Lib.hid e3
  have E4 := Lib.hid e4
  have C5 := Lib.hid c5
  have KZ := Lib.hid kz
  have HZ := Lib.hid hz6
  have HB6' := Lib.hid hb6
  clear e1 e2 e3 e4 e5 c5 kz hz6 hb6
  gi_wp2
  refine wpIn_range (gf := 22) (lb := #[.pointer (some ⟨r5, 0, none⟩)]) rfl (enters_of Try.func22 (by kernel_rfl) rfl)
    (pieces_sq 2 r5 w.heap.size (by omega) a len cap L wl C5.out (by have := KZ.out; have := HZ.out; omega) hB6.out LW.out HB6'.out.size hcap hcm) (by omega) (fun h k => h.trans k) (fun W l o o' hl ho _ => bel_put o' HB6'.out.size hl ho) (fun _ => rfl)
    (IC w) (XC w L) (RC w L a len cap r1 r2 r3 r4 r5)
    (fun s A B h hb => h.cs (Cs.below hb) (hb.mono h.size)) (fun c s A B h hb => h.cs (Cs.below hb) (hb.mono h.size))
    (fun s A l o o' h hl ho hc => h.cs (Cs.put o' ho hc) (bel_put o' HB6'.out.size hl ho)) (fun c s A l o o' h hl ho hc => h.cs (Cs.put o' ho hc) (bel_put o' HB6'.out.size hl ho))
    (fun s x a' A l o o' h hl ho hc => h.cs (Cs.put o' ho hc) (bel_put o' HB6'.out.size hl ho))
    ⟨[], rfl, I0.out⟩ ?assign ?body ?done ?stop
  case assign =>
    rintro l pre x W K hI hH hK
    have hsz := hI.size
    have hwl : wl.heap.size ≤ wl.heap.size := Nat.le_refl _
    have hRC : ∀ W', (∃ o, W' = W.alloc o ∧ o = .cells (pcC x) 47 (0, 0)) → w.heap.size + 5 ≤ W.heap.size → RC w L a len cap r1 r2 r3 r4 r5 pre x (actC a len cap w.heap.size r1 r2 r3 r4 r5 W.heap.size x) W' := by
      rintro W' ⟨o, rfl, rfl⟩ h5
      obtain ⟨F, hF, hIc⟩ := hI
      have hc := Cs.below (alB W (.cells (pcC x) 47 (0, 0)))
      exact ⟨F, W.heap.size, hF, hIc.cs hc ((alB W _).mono hsz), hH.cs hc, h5, heap_alloc_new _ _, rfl⟩
    have h5 : w.heap.size + 5 ≤ W.heap.size := by
      obtain ⟨F, hF, hIc⟩ := hI
      have := blk_lt hIc.2.1
      omega
    have HRC := Lib.hid hRC
    have HK := Lib.hid hK
    clear hRC hK hI hH
    cases x with
    | none =>
      simp only [pcV]
      gi_wp2
      exact HK.out _ _ ((KeepsOthers.alloc _ _).from _) ((alB W _).mono hsz) (HRC.out _ ⟨_, rfl, rfl⟩ h5)
    | some f =>
      simp only [pcV]
      gi_wp2
      exact HK.out _ _ ((KeepsOthers.alloc _ _).from _) ((alB W _).mono hsz) (HRC.out _ ⟨_, rfl, rfl⟩ h5)
  case body =>
    rintro l pre x a' W ⟨F, Bx, rfl, hI, hH, hBx, hbx, rfl⟩
    obtain ⟨⟨v, k3, ho⟩, k4, k0, k1, k2, hLie, hbw⟩ := hI
    obtain ⟨F', R, hF', hL, hFok, hx⟩ := hH
    obtain rfl := some_inj hF'
    obtain ⟨va, vn, vc, hv⟩ := own_form ho
    subst hv
    have E1' := E1.out
    have E2' := E2.out
    have E3' := E3.out
    have E4' := E4.out
    have z0 : W.cell? ⟨w.heap.size, 0, none⟩ = some (.slice none 0 0) := by simp [World.cell?, k0]
    have z1 : W.cell? ⟨r1, 0, none⟩ = some (.int .i64 0) := by rw [E1']; simp [World.cell?, k1]
    have z2 : W.cell? ⟨r2, 0, none⟩ = some (.int .i64 0) := by rw [E2']; simp [World.cell?, k2]
    have z3 : W.cell? ⟨r3, 0, none⟩ = some (.slice va vn vc) := by rw [E3']; simp [World.cell?, k3]
    have z4 : W.cell? ⟨r4, 0, none⟩ = some (.int .i64 ((fb F).length : Int)) := by rw [E4']; simp [World.cell?, k4]
    have y0 : W.frozen? ⟨w.heap.size, 0, none⟩ = false := by simp [World.frozen?, k0]
    have y1 : W.frozen? ⟨r1, 0, none⟩ = false := by rw [E1']; simp [World.frozen?, k1]
    have y2 : W.frozen? ⟨r2, 0, none⟩ = false := by rw [E2']; simp [World.frozen?, k2]
    have y3 : W.frozen? ⟨r3, 0, none⟩ = false := by rw [E3']; simp [World.frozen?, k3]
    have y4 : W.frozen? ⟨r4, 0, none⟩ = false := by rw [E4']; simp [World.frozen?, k4]
    have d01 : ¬ w.heap.size = r1 := by omega
    have d10 : ¬ r1 = w.heap.size := by omega
    have d02 : ¬ w.heap.size = r2 := by omega
    have d20 : ¬ r2 = w.heap.size := by omega
    have d03 : ¬ w.heap.size = r3 := by omega
    have d30 : ¬ r3 = w.heap.size := by omega
    have d04 : ¬ w.heap.size = r4 := by omega
    have d40 : ¬ r4 = w.heap.size := by omega
    have d05 : ¬ w.heap.size = Bx := by omega
    have d50 : ¬ Bx = w.heap.size := by omega
    have d12 : ¬ r1 = r2 := by omega
    have d21 : ¬ r2 = r1 := by omega
    have d13 : ¬ r1 = r3 := by omega
    have d31 : ¬ r3 = r1 := by omega
    have d14 : ¬ r1 = r4 := by omega
    have d41 : ¬ r4 = r1 := by omega
    have d15 : ¬ r1 = Bx := by omega
    have d51 : ¬ Bx = r1 := by omega
    have d23 : ¬ r2 = r3 := by omega
    have d32 : ¬ r3 = r2 := by omega
    have d24 : ¬ r2 = r4 := by omega
    have d42 : ¬ r4 = r2 := by omega
    have d25 : ¬ r2 = Bx := by omega
    have d52 : ¬ Bx = r2 := by omega
    have d34 : ¬ r3 = r4 := by omega
    have d43 : ¬ r4 = r3 := by omega
    have d35 : ¬ r3 = Bx := by omega
    have d53 : ¬ Bx = r3 := by omega
    have d45 : ¬ r4 = Bx := by omega
    have d54 : ¬ Bx = r4 := by omega
    cases x with
    | none =>
      have p2 : W.cell? ⟨Bx, 4, none⟩ = some (.int .i64 31) := by simp [World.cell?, hbx, pcC, pcV]
      have l1 : W.heap[r1]? = some (.cells #[.int .i64 0] 3 (0, 0)) := by rw [E1']; exact k1
      have l2 : W.heap[r2]? = some (.cells #[.int .i64 0] 29 (0, 0)) := by rw [E2']; exact k2
      have a1 := set_far (i := 0) (u := .slice va vn vc) l1 d10
      have a2 := set_far (i := 0) (u := .slice va vn vc) l2 d20
      have b2 := set_far (i := 0) (u := .int .i64 ((fb F).length : Int)) a2 d21
      have q0 := set_at k0 (.slice va vn vc)
      have q1 := set_at a1 (.int .i64 ((fb F).length : Int))
      have q2 := set_at b2 (.int .i64 31)
      have HX : Xcut w L ((((W.setCell ⟨w.heap.size, 0, none⟩ (.slice va vn vc)).setCell ⟨r1, 0, none⟩ (.int .i64 ((fb F).length : Int))).setCell ⟨r2, 0, none⟩ (.int .i64 31)).drew) := by
        refine ⟨F, R, _, hL, hx, set_far (set_far q0 d01) d02, ?_, ?_, ?_, ?_, ?_⟩
        · exact own_setC (own_setC (own_setC ho k0 (by decide)) a1 (by decide)) b2 (by decide)
        · rw [← E1']; exact set_far q1 d12
        · have : w.heap.size + 2 = r2 := by omega
          rw [this]; exact q2
        · exact ((hLie.set k0 (by decide)).set a1 (by decide)).set b2 (by decide)
        · exact ((((hbw.trans (bel_set (Nat.le_refl _))).trans (bel_set (by omega))).trans (bel_set (by omega)))).drew
      have HP : Hid (KeepsFrom wl.heap.size W ((((W.setCell ⟨w.heap.size, 0, none⟩ (.slice va vn vc)).setCell ⟨r1, 0, none⟩ (.int .i64 ((fb F).length : Int))).setCell ⟨r2, 0, none⟩ (.int .i64 31)).drew) ∧ XC w L .ret (F.map some ++ [none]) ((((W.setCell ⟨w.heap.size, 0, none⟩ (.slice va vn vc)).setCell ⟨r1, 0, none⟩ (.int .i64 ((fb F).length : Int))).setCell ⟨r2, 0, none⟩ (.int .i64 31)).drew)) :=
        Lib.hid ⟨((((KeepsOthers.setCell _ _ _).trans (KeepsOthers.setCell _ _ _)).trans (KeepsOthers.setCell _ _ _)).trans (KeepsOthers.drew _)).from _, rfl, HX⟩
      clear E1' E2' E3' E4' hbx l1 l2 a1 a2 b2 q0 q1 q2 HX hx hL hLie ho hbw hFok k0 k1 k2 k3 k4
      simp only [actC, pcV]
      gi_wp2
      gi_region
      all_goals
        gi_wp2
        exact HP.out
    | some f =>
      have p0 : W.cell? ⟨Bx, 0, none⟩ = some (.int .u16 (f.id : Int)) := by simp [World.cell?, hbx, pcC, pcV]
      have p1 : W.cell? ⟨Bx, 1, none⟩ = some (.int .u8 (f.u : Int)) := by simp [World.cell?, hbx, pcC, pcV]
      have p2 : W.cell? ⟨Bx, 2, none⟩ = some (.slice (some ⟨f.g, 0, none⟩) f.P.length f.P.length) := by simp [World.cell?, hbx, pcC, pcV]
      have p3 : W.cell? ⟨Bx, 3, none⟩ = some (.int .i64 ((f.P.length : Int) + 7)) := by simp [World.cell?, hbx, pcC, pcV]
      have p4 : W.cell? ⟨Bx, 4, none⟩ = some (.int .i64 0) := by simp [World.cell?, hbx, pcC, pcV]
      have HE1 := Lib.hid E1'
      have HH := Lib.hid hx
      have HLL := Lib.hid hL
      have HLIE := Lib.hid hLie
      have HO := Lib.hid ho
      have HBW := Lib.hid hbw
      have K0 := Lib.hid k0
      have K1 := Lib.hid k1
      have K2 := Lib.hid k2
      have K3 := Lib.hid k3
      have K4 := Lib.hid k4
      have HBX := Lib.hid hbx
      have HFOK := Lib.hid hFok
      clear E1' E2' E3' E4' hx hL hLie ho hbw k0 k1 k2 k3 k4 hbx hFok
      have hFl : F.length ≤ 100000 := by
        have hlb := fb_count F
        have := congrArg List.length HLL.out
        rw [List.length_append, B0.out.ln] at this
        omega
      obtain ⟨i0, hi, hz0, hz1, hz2⟩ := info_parts info25
      have hsz := HBW.out.size
      simp only [actC, pcV]
      gi_wp2_with (gi_at_builtin; refine wpListIn_append_own _ rfl (.tmp 18) (.tmp 21) _ rfl w.heap.size 25 i0 _ 3 32 Try.underlying28 hi hz0 hz1 hz2 rfl (by decide) _ _ _ rfl (HO.out.alloc _) ⟨W.heap.size, 0, none⟩ 1 1 (fcl f) rfl rfl ?cs ?one ?mx ?byt ?hB ?_)
      case cs =>
        intro j u hu
        first | exact hu | simpa [fcl] using hu
      case one => intro u hu; simp [fcl] at hu; rcases hu with rfl | rfl | rfl <;> rfl
      case mx => unfold maxLen; omega
      case byt => omega
      case hB => first | omega | (simp; omega)
      intro v' w1 hown' hgrow hnn
      obtain ⟨xa, xn, xc, hv'⟩ := own_form hown'
      subst hv'
      have g0 := grow_far HO.out hgrow K0.out (by decide)
      have g1 := grow_far HO.out hgrow K1.out (by decide)
      have g2 := grow_far HO.out hgrow K2.out (by decide)
      have g3 := grow_far HO.out hgrow K3.out (by decide)
      have g4 := grow_far HO.out hgrow K4.out (by decide)
      have gx := grow_far HO.out hgrow HBX.out (by decide)
      have l3 : w1.heap[r3]? = some (.cells #[.slice va vn vc] 28 (0, 0)) := by rw [E3.out]; exact g3
      have l4 : w1.heap[r4]? = some (.cells #[.int .i64 ((fb F).length : Int)] 3 (0, 0)) := by rw [E4.out]; exact g4
      have x3 : w1.cell? ⟨r3, 0, none⟩ = some (.slice va vn vc) := by simp [World.cell?, l3]
      have t3 : w1.frozen? ⟨r3, 0, none⟩ = false := by simp [World.frozen?, l3]
      have x4 : w1.cell? ⟨r4, 0, none⟩ = some (.int .i64 ((fb F).length : Int)) := by simp [World.cell?, l4]
      have t4 : w1.frozen? ⟨r4, 0, none⟩ = false := by simp [World.frozen?, l4]
      have x5 : w1.cell? ⟨Bx, 3, none⟩ = some (.int .i64 ((f.P.length : Int) + 7)) := by simp [World.cell?, gx, pcC, pcV]
      have hfl : (fb F).length ≤ 100000 := by
        have := congrArg List.length HLL.out
        rw [List.length_append, B0.out.ln] at this
        omega
      have hfp := HH.out.1.2.2.2.1
      have hLie1 : Lie w.heap.size (F ++ [f]) w1 := by
        intro q hq
        rcases List.mem_append.1 hq with hq | hq
        · obtain ⟨y1, y2, y3⟩ := HLIE.out q hq
          exact ⟨y1, y2, grow_far HO.out hgrow y3 (by decide)⟩
        · simp at hq
          subst hq
          exact ⟨HH.out.1, HH.out.2.2.2.1, grow_far HO.out hgrow HH.out.2.2.2.2 (by decide)⟩
      have hown2 : w1.ownsRow w.heap.size 25 3 (.slice xa xn xc) (F ++ [f]).length (acl (F ++ [f])) := by
        rw [acl_app, acl_one, List.length_append]; exact hown'
      have m4 := set_far (i := 0) (u := .slice xa xn xc) l4 d43
      have q3 := set_at l3 (.slice xa xn xc)
      have q4 := set_at m4 (.int .i64 (((fb F).length : Int) + ((f.P.length : Int) + 7)))
      have hbw1 : Below w.heap.size W w1 := ((Below.refl _ W).alloc hsz _).grown hgrow (by simp; omega) (fun k hk => (HO.out.lt k hk).1)
      have hb2 : Below w.heap.size W ((w1.setCell ⟨r3, 0, none⟩ (.slice xa xn xc)).setCell ⟨r4, 0, none⟩ (.int .i64 (((fb F).length : Int) + ((f.P.length : Int) + 7)))) := (hbw1.trans (bel_set (by have := E3.out; omega))).trans (bel_set (by have := E4.out; omega))
      have hIn : IC w (F.map some ++ [some f]) ((w1.setCell ⟨r3, 0, none⟩ (.slice xa xn xc)).setCell ⟨r4, 0, none⟩ (.int .i64 (((fb F).length : Int) + ((f.P.length : Int) + 7)))) := by
        refine ⟨F ++ [f], by simp, ⟨_, ?_, own_setC (own_setC hown2 l3 (by decide)) m4 (by decide)⟩, ?_, ?_, ?_, ?_, (hLie1.set l3 (by decide)).set m4 (by decide), HBW.out.trans hb2⟩
        · have : w.heap.size + 3 = r3 := by have := E3.out; omega
          rw [this]; exact set_far q3 d34
        · have : w.heap.size + 4 = r4 := by have := E4.out; omega
          rw [this, fb_app, fb_one, List.length_append, putL_len]
          have e : (((fb F).length + (f.P.length + 7) : Nat) : Int) = ((fb F).length : Int) + ((f.P.length : Int) + 7) := by omega
          rw [e]; exact q4
        · exact set_far (set_far g0 d03) d04
        · have : w.heap.size + 1 = r1 := HE1.out.symm
          rw [this] at g1 ⊢; exact set_far (set_far g1 d13) d14
        · have : w.heap.size + 2 = r2 := by have := E2.out; omega
          rw [this] at g2 ⊢; exact set_far (set_far g2 d23) d24
      have hkf : KeepsFrom wl.heap.size W ((w1.setCell ⟨r3, 0, none⟩ (.slice xa xn xc)).setCell ⟨r4, 0, none⟩ (.int .i64 (((fb F).length : Int) + ((f.P.length : Int) + 7)))) := by
        refine ⟨hb2.size, fun k o _ hk hc => ?_⟩
        have hk1 : w1.heap[k]? = some o := by
          refine (hgrow.block k (by have := blk_lt hk; simp; omega) (fun e => ?_)).trans (low_of (alB W _) hk)
          rcases HO.out.2 with ⟨e1, _⟩ | ⟨g, cap', cur, hv, _, hb, _⟩
          · rw [e1] at e; simp [Value.ownBlock] at e
          · rw [hv] at e
            simp [Value.ownBlock] at e
            subst e
            rw [hb] at hk; cases hk; cases hc
        have n3 : k ≠ r3 := by rintro rfl; rw [l3] at hk1; cases hk1; cases hc
        have n4 : k ≠ r4 := by rintro rfl; rw [l4] at hk1; cases hk1; cases hc
        exact set_far (set_far hk1 n3) n4
      have HP := Lib.hid (And.intro hkf (And.intro hb2 hIn))
      clear g0 g1 g2 g3 g4 gx l3 l4 hLie1 hown2 m4 q3 q4 hbw1 hb2 hIn hkf hown' hgrow hnn
      gi_wp2
      exact HP.out
  case done =>
    rintro D xs W hD hS ⟨F, rfl, hI⟩ hK
    have hSp : ∃ R, L = fb F ++ R ∧ firstR R = .more := by
      rcases hS with ⟨F', R, h1, h2, _, h4⟩ | ⟨ys, h⟩
      · obtain rfl := some_inj h1; exact ⟨R, h2, h4⟩
      · have : (none : Option Fd) ∈ F.map some := by rw [h]; simp
        simp at this
    obtain ⟨R, hL, hR⟩ := hSp
    obtain ⟨⟨v, k3, ho⟩, k4, k0, k1, k2, hLie, hbw⟩ := hI
    obtain ⟨va, vn, vc, hv⟩ := own_form ho
    subst hv
    have E1' := E1.out
    have E2' := E2.out
    have E3' := E3.out
    have E4' := E4.out
    have hz := HZ.out
    have d01 : ¬ w.heap.size = r1 := by omega
    have d10 : ¬ r1 = w.heap.size := by omega
    have d02 : ¬ w.heap.size = r2 := by omega
    have d20 : ¬ r2 = w.heap.size := by omega
    have d03 : ¬ w.heap.size = r3 := by omega
    have d30 : ¬ r3 = w.heap.size := by omega
    have d04 : ¬ w.heap.size = r4 := by omega
    have d40 : ¬ r4 = w.heap.size := by omega
    have d12 : ¬ r1 = r2 := by omega
    have d21 : ¬ r2 = r1 := by omega
    have d13 : ¬ r1 = r3 := by omega
    have d31 : ¬ r3 = r1 := by omega
    have d14 : ¬ r1 = r4 := by omega
    have d41 : ¬ r4 = r1 := by omega
    have d23 : ¬ r2 = r3 := by omega
    have d32 : ¬ r3 = r2 := by omega
    have d24 : ¬ r2 = r4 := by omega
    have d42 : ¬ r4 = r2 := by omega
    have d34 : ¬ r3 = r4 := by omega
    have d43 : ¬ r4 = r3 := by omega
    have z0 : W.cell? ⟨w.heap.size, 0, none⟩ = some (.slice none 0 0) := by simp [World.cell?, k0]
    have z1 : W.cell? ⟨r1, 0, none⟩ = some (.int .i64 0) := by rw [E1']; simp [World.cell?, k1]
    have z2 : W.cell? ⟨r2, 0, none⟩ = some (.int .i64 0) := by rw [E2']; simp [World.cell?, k2]
    have z3 : W.cell? ⟨r3, 0, none⟩ = some (.slice va vn vc) := by rw [E3']; simp [World.cell?, k3]
    have z4 : W.cell? ⟨r4, 0, none⟩ = some (.int .i64 ((fb F).length : Int)) := by rw [E4']; simp [World.cell?, k4]
    have y0 : W.frozen? ⟨w.heap.size, 0, none⟩ = false := by simp [World.frozen?, k0]
    have y1 : W.frozen? ⟨r1, 0, none⟩ = false := by rw [E1']; simp [World.frozen?, k1]
    have y2 : W.frozen? ⟨r2, 0, none⟩ = false := by rw [E2']; simp [World.frozen?, k2]
    have l1 : W.heap[r1]? = some (.cells #[.int .i64 0] 3 (0, 0)) := by rw [E1']; exact k1
    have l2 : W.heap[r2]? = some (.cells #[.int .i64 0] 29 (0, 0)) := by rw [E2']; exact k2
    have a1 := set_far (i := 0) (u := .slice va vn vc) l1 d10
    have a2 := set_far (i := 0) (u := .slice va vn vc) l2 d20
    have b2 := set_far (i := 0) (u := .int .i64 ((fb F).length : Int)) a2 d21
    have q0 := set_far (i := 0) (u := .int .i64 0) (set_far (i := 0) (u := .int .i64 ((fb F).length : Int)) (set_at k0 (.slice va vn vc)) d01) d02
    have q1 := set_far (i := 0) (u := .int .i64 0) (set_at a1 (.int .i64 ((fb F).length : Int))) d12
    have q2 := set_at b2 (.int .i64 0)
    obtain ⟨W3, hW3⟩ : ∃ W3, W3 = ((((W.setCell ⟨w.heap.size, 0, none⟩ (.slice va vn vc)).setCell ⟨r1, 0, none⟩ (.int .i64 ((fb F).length : Int))).setCell ⟨r2, 0, none⟩ (.int .i64 0)).drew) := ⟨_, rfl⟩
    have hK3 : W3.heap[D]? = some (.deferred (some [])) := by
      rw [hW3]; exact set_far (set_far (set_far hK (by omega)) (by omega)) (by omega)
    have hP : CutP w L (.returned (.tuple #[.slice va vn vc, .int .i64 ((fb F).length : Int), .int .i64 0])) (W3.putObj D (.deferred none)) := by
      have hlie3 : Lie w.heap.size F W3 := by rw [hW3]; exact ((hLie.set k0 (by decide)).set a1 (by decide)).set b2 (by decide)
      have hown3 : W3.ownsRow w.heap.size 25 3 (.slice va vn vc) F.length (acl F) := by rw [hW3]; exact own_setC (own_setC (own_setC ho k0 (by decide)) a1 (by decide)) b2 (by decide)
      have hb3 : Below w.heap.size w W3 := by rw [hW3]; exact ((((hbw.trans (bel_set (Nat.le_refl _))).trans (bel_set (by omega))).trans (bel_set (by omega)))).drew
      have hc := Cs.put (.deferred none) hK3 rfl
      exact ⟨F, R, _, by unfold firstE; rw [hR]; rfl, hL, by unfold firstN; rw [hR], own_cs hc hown3, hlie3.cs hc, hb3.trans (bel_put _ HB6'.out.size hD hK3)⟩
    have HP := Lib.hid hP
    have HK3 := Lib.hid hK3
    have hq0 : W3.heap[w.heap.size]? = some (.cells #[.slice va vn vc] 28 (0, 0)) := by rw [hW3]; exact q0
    have hq1 : W3.heap[r1]? = some (.cells #[.int .i64 ((fb F).length : Int)] 3 (0, 0)) := by rw [hW3]; exact q1
    have hq2 : W3.heap[r2]? = some (.cells #[.int .i64 0] 29 (0, 0)) := by rw [hW3]; exact q2
    have hcd := Cs.put (.deferred none) hK3 rfl
    have g0 : (W3.putObj D (.deferred none)).cell? ⟨w.heap.size, 0, none⟩ = some (.slice va vn vc) := by simp [World.cell?, hcd _ _ _ _ hq0]
    have g1 : (W3.putObj D (.deferred none)).cell? ⟨r1, 0, none⟩ = some (.int .i64 ((fb F).length : Int)) := by simp [World.cell?, hcd _ _ _ _ hq1]
    have g2 : (W3.putObj D (.deferred none)).cell? ⟨r2, 0, none⟩ = some (.int .i64 0) := by simp [World.cell?, hcd _ _ _ _ hq2]
    have G0 := Lib.hid g0
    have G1 := Lib.hid g1
    have G2 := Lib.hid g2
    have HD := Lib.hid (show D ≠ w.heap.size ∧ D ≠ r1 ∧ D ≠ r2 from ⟨by omega, by omega, by omega⟩)
    have HW3 := Lib.hid hW3
    clear E1' E2' E3' E4' hz hL hR hLie hbw ho k0 k1 k2 k3 k4 l1 l2 a1 a2 b2 q0 q1 q2 hP hK3 hS hK hW3 hq0 hq1 hq2 hcd g0 g1 g2
    gi_wp2
    gi_region
    all_goals
      gi_wp2
      rw [← HW3.out]
      refine ⟨by simp, .inl ⟨_, _, rfl, run_takeDeferred HK3.out, ?_⟩⟩
      have g0 := G0.out
      have g1 := G1.out
      have g2 := G2.out
      exact ⟨.tuple #[.slice va vn vc, .int .i64 ((fb F).length : Int), .int .i64 0], by simp [results, Try.results13, go_sem, g0, g1, g2], HP.out⟩
  case stop =>
    rintro D c pre W hD _ ⟨rfl, F, R, v, hL, hR, k0, ho, k1, k2, hLie, hbw⟩ hK
    have hcd := Cs.put (.deferred none) hK rfl
    have g0 : (W.putObj D (.deferred none)).cell? ⟨w.heap.size, 0, none⟩ = some v := by simp [World.cell?, hcd _ _ _ _ k0]
    have g1 : (W.putObj D (.deferred none)).cell? ⟨r1, 0, none⟩ = some (.int .i64 ((fb F).length : Int)) := by rw [E1.out]; simp [World.cell?, hcd _ _ _ _ k1]
    have g2 : (W.putObj D (.deferred none)).cell? ⟨r2, 0, none⟩ = some (.int .i64 31) := by rw [E2.out]; simp [World.cell?, hcd _ _ _ _ k2]
    have hP : CutP w L (.returned (.tuple #[v, .int .i64 ((fb F).length : Int), .int .i64 31])) (W.putObj D (.deferred none)) :=
      ⟨F, R, _, by unfold firstE; rw [hR]; rfl, hL, by unfold firstN; rw [hR], own_cs hcd ho, hLie.cs hcd, hbw.trans (bel_put _ HB6'.out.size hD hK)⟩
    obtain ⟨va, vn, vc, hv⟩ := own_form ho
    subst hv
    have HP := Lib.hid hP
    have G0 := Lib.hid g0
    have G1 := Lib.hid g1
    have G2 := Lib.hid g2
    have HK := Lib.hid hK
    clear hL hR k0 ho k1 k2 hLie hbw hK hcd g0 g1 g2 hP
    gi_wp2
    refine ⟨by simp, .inl ⟨_, _, rfl, run_takeDeferred HK.out, ?_⟩⟩
    have g0 := G0.out
    have g1 := G1.out
    have g2 := G2.out
    exact ⟨.tuple #[.slice va vn vc, .int .i64 ((fb F).length : Int), .int .i64 31], by simp [results, Try.results13, go_sem, g0, g1, g2], HP.out⟩
end Go.Proofs.Ytnihgpaandodjaa
