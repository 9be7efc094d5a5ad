/- A new table; what lapses. -/
import Derived.Test.YtfloceoopjokcaaB
import Derived.WalkSpells
import Derived.Lib.LazyBuf
namespace Go.Proofs.Ytfloceoopjokcaa
set_option linter.unusedVariables false
open Go.ChangeShapes Go.WideShapes Go.ChangeAt Go.RowKit

theorem info2 : (Try.prog.info? 2).map (fun i => (i.zero, i.size, i.bytes)) = some (some (.int .i64 0), 1, 8) := by kernel_rfl
theorem info3 : (Try.prog.info? 3).map (fun i => (i.zero, i.size, i.bytes)) = some (some (.int .i64 0), 1, 8) := by kernel_rfl
theorem addr_at (b off n : Nat) : (Addr.mk b off none).add n = ⟨b, off + n, none⟩ := by
  by_cases h : n = 0
  · subst h; simp [Addr.add]
  · simp [Addr.add, h]
theorem iv_app (L M : List Int) : iv (L ++ M) = iv L ++ iv M := by simp [iv]
structure ArgI (w : World) (a : Option Addr) (n c : Nat) (L : List Int) : Prop where
  row : Ir w a n L
  nil : a = none → n = 0 ∧ c = 0
  le : n ≤ c
  mx : c ≤ maxLen
theorem ArgI.below {W w : World} {a : Option Addr} {n c : Nat} {L : List Int} (h : ArgI W a n c L) (hb : Below W.heap.size W w) : ArgI w a n c L := ⟨h.row.below hb, h.nil, h.le, h.mx⟩

/-- Numbers behind a row that the call owns. -/
theorem wpList_append_ir (T e : TypeId) (hT : Try.prog.underlying T = some (.slice e)) (hinf : (Try.prog.info? e).map (fun i => (i.zero, i.size, i.bytes)) = some (some (.int .i64 0), 1, 8)) {ops : Array Oper} {rest : List Oper} {o : Oper} {ac : Act} {Q : Exit → Act → World → Prop} (hgd : o.guard = none) (s x : Operand)
    (ho : o.op = .call { callee := .builtin .append, args := #[s, x], argTypes := #[T, T] }) (B : Nat) (w : World) (hB : B ≤ w.heap.size) (v : Value) (n : Nat) (L : List Int) (hs : ac.eval s = v)
    (hown : w.ownsRow B e 1 v n (iv L)) (a : Option Addr) (len cap : Nat) (M : List Int) (hx : ac.eval x = .slice a len cap) (hb : Ir w a len M) (hnil : a = none → cap = 0) (hle : (n + len) * 8 ≤ 140737488355328)
    (h : ∀ v' w', w'.ownsRow B e 1 v' (n + len) (iv (L ++ M)) → w.grownBy w' v.ownBlock → (v' = .slice none 0 0 ↔ v = .slice none 0 0 ∧ len = 0) → (v'.ownBlock = v.ownBlock ∨ v'.ownBlock = some w.heap.size) → wpList Try.prog ops Q rest (ac.put o.dst v') w') :
    wpList Try.prog ops Q (o :: rest) ac w := by
  obtain ⟨ti, hi, hz0, hz1, hz2⟩ := info_parts hinf
  cases a with
  | none =>
    obtain rfl := hnil rfl
    have h0 : len = 0 := by
      rcases hb.at' with z | ⟨_, _, e, _⟩
      · exact z
      · cases e
    subst h0
    have hM : M = [] := List.eq_nil_of_length_eq_zero hb.ln
    subst hM
    refine wpList_append_own_none hgd s x T ho B e ti 1 hT hi _ n (iv L) hs hown hx ?_
    exact h v w (by simpa using hown) ⟨rfl, rfl, rfl, Nat.le_refl _, fun _ _ _ => rfl⟩ (by simp) (.inl rfl)
  | some ad =>
    have hc : ∀ j u, (iv M)[j]? = some u → w.cell? (ad.add j) = some u := by
      intro j u hu
      have hj : j < len := by
        have := (List.getElem?_eq_some_iff.1 hu).1
        rwa [iv_len, hb.ln] at this
      obtain ⟨b, off, ha, _, hcc⟩ := hb.pos (by omega)
      simp at ha
      subst ha
      rw [iv_get M j (by rw [hb.ln]; exact hj)] at hu
      rw [addr_at, ← hu]
      exact hcc j hj
    refine wpList_append_own_at _ hgd s x T ho B e ti (.int .i64 0) 1 8 hT hi hz0 hz1 hz2 rfl (by decide) v n (iv L) hs hown ad len cap (iv M) hx (by rw [iv_len, hb.ln]; omega) hc (iv_one _) (by unfold maxLen; omega) hle hB ?_
    intro v' w' hown' hg hnn hbk
    exact h v' w' (by rw [iv_app]; exact hown') hg hnn hbk
theorem own_ir {B : Nat} {w : World} {e : TypeId} {v : Value} {n : Nat} {L : List Int} (h : w.ownsRow B e 1 v n (iv L)) (hw : ∀ x ∈ L, (Lit.int .i64 x).wf = true) : ∃ a c, v = .slice a n c ∧ ArgI w a n c L ∧ ∀ b off, a = some ⟨b, off, none⟩ → B ≤ b := by
  obtain ⟨hl, ⟨hv, h0⟩ | ⟨g, cap, cur, hv, hg, hb, hl', hm, hs, ht⟩⟩ := h
  · subst h0
    have : L = [] := List.eq_nil_of_length_eq_zero (by simpa [iv_len] using hl)
    subst this
    exact ⟨none, 0, hv, ⟨Ir.nil _ _, fun _ => ⟨rfl, rfl⟩, Nat.le_refl _, Nat.zero_le _⟩, (fun b off e => by cases e)⟩
  · have hn : L.length = n := by simpa [iv_len] using hl
    refine ⟨_, cap, hv, ⟨⟨hn, by omega, hw, .inr ⟨g, 0, rfl, blk_lt hb, fun i hi => ?_⟩⟩, (fun e => by cases e), hl', hm⟩, fun b off e => by simp only [Option.some.injEq, Addr.mk.injEq, and_true] at e; omega⟩
    have h1 : (cur.toList.take (n * 1))[i]? = (iv L)[i]? := by rw [ht]
    rw [List.getElem?_take_of_lt (by omega), iv_get L i (by omega)] at h1
    simp only [World.cell?, hb, Nat.zero_add]
    have hc : cur[i]? = some (.int .i64 (L.getD i 0)) := by rw [← Array.getElem?_toList, h1]
    simpa using hc
theorem own_newi (e : TypeId) {B : Nat} {w : World} (hB : B ≤ w.heap.size) : (w.alloc (.cells #[] e (0, 0))).ownsRow B e 1 (.slice (some ⟨w.heap.size, 0, none⟩) 0 0) 0 (iv []) :=
  ⟨rfl, .inr ⟨w.heap.size, 0, #[], rfl, hB, heap_alloc_new w _, Nat.le_refl _, Nat.zero_le _, rfl, rfl⟩⟩

def CloneP (w : World) (n : Nat) (L : List Int) (e : Ending) (w' : World) : Prop :=
  ∃ a c, e = .returned (.slice a n c) ∧ ArgI w' a n c L ∧ (∀ b off, a = some ⟨b, off, none⟩ → w.heap.size ≤ b) ∧ Below w.heap.size w w'
theorem clone_any (a : Option Addr) (n c : Nat) (L : List Int) (w : World) (h : ArgI w a n c L) (hn : n * 8 ≤ 140737488355328) :
    Calls Try.prog 28 #[.slice a n c] w (CloneP w n L) := by
  cases a with
  | none =>
    obtain ⟨rfl, rfl⟩ := h.nil rfl
    have hp : CloneP w 0 L (.returned (.slice none 0 0)) w := ⟨none, 0, rfl, h, (fun b off e => by cases e), Below.refl _ _⟩
    have HP := Lib.hid hp
    have hq := run_eql_slice_nil (P := Try.prog) w 22 2 none 0 0 Try.underlying22
    clear hp h
    go_enter Try.func28, Try.ntmps28
    go_wp2_with fail
    go_ret
    exact HP.out
  | some ad =>
    have H := Lib.hid h
    have hq := run_eql_slice_nil (P := Try.prog) w 22 2 (some ad) n c Try.underlying22
    clear h
    go_enter Try.func28, Try.ntmps28
    go_wp2_with (at_builtin; refine wpList_append_ir 22 2 Try.underlying22 info2 rfl (.tmp 5) (.tmp 6) rfl w.heap.size _ ?hB (.slice (some ⟨w.heap.size, 0, none⟩) 0 0) 0 [] rfl ?own (some ad) n c L rfl ?hby ?nil ?le ?_)
    case hB => simp
    case own => exact own_newi 2 (Nat.le_refl _)
    case nil => intro e; cases e
    case le => omega
    case hby => exact H.out.row.below ((Below.refl _ _).alloc (Nat.le_refl _) _)
    intro v2 w2 ho2 hg2 hn2 hk2
    have b2 : Below w.heap.size w w2 := ((Below.refl _ _).alloc (Nat.le_refl _) _).grown hg2 (by simp) (fun k hk => by simp [Value.ownBlock] at hk; omega)
    obtain ⟨a2, c2, rfl, ha2, hf2⟩ := own_ir ho2 H.out.row.wf
    have HP : Hid (CloneP w n L (.returned (.slice a2 n c2)) w2) := Lib.hid ⟨a2, c2, rfl, (by simpa using ha2), hf2, b2⟩
    clear ho2 hg2 hn2 hk2 b2 ha2 hf2
    go_wp2_with fail
    go_ret
    exact HP.out

def NewP (w : World) (Lm : List Int) (e : Ending) (w' : World) : Prop :=
  ∃ t m, e = .returned (.pointer (some ⟨t, 0, none⟩)) ∧ Tb w.heap.size w' t m 0 Lm (List.replicate Lm.length 0) ∧ Below w.heap.size w w'
theorem rep_getD (n i : Nat) : (List.replicate n (0 : Int)).getD i 0 = 0 := by
  simp only [List.getD]
  rw [List.getElem?_replicate]
  split <;> rfl
theorem new_any (a : Option Addr) (n c : Nat) (Lm : List Int) (w : World) (h : ArgI w a n c Lm) (hn : n * 8 ≤ 140737488355328) :
    Calls Try.prog 8 #[.slice a n c] w (NewP w Lm) := by
  have hl := h.row.ln
  have H := Lib.hid h
  have hmm := @run_makeMap Try.prog
  clear h
  go_enter Try.func8, Try.ntmps8
  go_wp2_with fail
  refine (clone_any a n c Lm w H.out hn).mono ?_
  rintro e w1 ⟨a1, c1, rfl, h1, hf1, b1⟩
  have hp : NewP w Lm (.returned (.pointer (some ⟨w1.heap.size + 1, 0, none⟩))) ((w1.alloc (.map #[] 0)).alloc (.cells #[.slice a1 n c1, .map (some w1.heap.size)] 52 (0, 0))) := by
    have hs1 := b1.size
    refine ⟨w1.heap.size + 1, w1.heap.size, rfl, ⟨by omega, by omega, by omega, by simp, ?_, ⟨a1, c1, ?_, ?_, ?_⟩, ?_⟩, (b1.alloc hs1 _).alloc (by simp; omega) _⟩
    · intro x hx; rw [List.mem_replicate] at hx; omega
    · have := heap_alloc_new (w1.alloc (.map #[] 0)) (.cells #[.slice a1 n c1, .map (some w1.heap.size)] 52 (0, 0))
      simp only [World.size_alloc] at this
      rw [hl]
      first | exact this | simpa using this
    · rw [hl]; exact (h1.row.below ((Below.refl _ _).alloc (Nat.le_refl _) _)).below ((Below.refl _ _).alloc (Nat.le_refl _) _)
    · intro b off e h0
      subst e
      rw [hl] at h0
      obtain ⟨b', off', e', hlt, _⟩ := h1.row.pos h0
      simp only [Option.some.injEq, Addr.mk.injEq, and_true] at e'
      omega
    · refine ((imap_made w1 Try.prog 3).below ((Below.refl _ _).alloc (Nat.le_refl _) _)).congr fun i => ?_
      unfold Fm
      rw [rep_getD]; simp
  have HP := Lib.hid hp
  clear hp h1 hf1 b1
  go_wp2_with fail
  go_ret
  exact HP.out
end Go.Proofs.Ytfloceoopjokcaa
