/- Latches of one group, and others. -/
import Derived.Test.YteakbijlcccnnaaO
namespace Go.Proofs.Yteakbijlcccnnaa
set_option linter.unusedVariables false
open Go.ChangeShapes Go.WideShapes Go.ChangeAt Go.RowKit

def agree (G : List Int) (S T : List La) (g : Int) : Prop := ∀ k, k < G.length → gg G k = g → sg S k = sg T k
theorem agree.fo {G : List Int} {S T : List La} {g : Int} (h : agree G S T g) (hS : Ok G S) (hT : Ok G T) : fo G S g = fo G T g := by
  refine fok_eq (T := []) hS.ok _ fun i => ?_
  unfold Go.Proofs.Yteakbijlcccnnaa.fo
  rw [fok_iff hT.ok]
  constructor
  · rintro ⟨h1, h2, h3⟩; exact ⟨h1, by rw [h i h1 h3]; exact h2, h3⟩
  · rintro ⟨h1, h2, h3⟩; exact ⟨h1, by rw [← h i h1 h3]; exact h2, h3⟩
theorem agree.others {G : List Int} {S T : List La} {g : Int} (h : agree G S T g) : others G S g G.length = others G T g G.length := by
  rw [Bool.eq_iff_iff, others_iff, others_iff]
  constructor
  · rintro ⟨k, h1, h2, h3⟩; exact ⟨k, h1, by rw [← h k h1 h3]; exact h2, h3⟩
  · rintro ⟨k, h1, h2, h3⟩; exact ⟨k, h1, by rw [h k h1 h3]; exact h2, h3⟩
theorem agree.lead {G : List Int} {S T : List La} {i : Nat} (h : agree G S T (gg G i)) (hS : Ok G S) (hT : Ok G T) (now : Int) : lead G S i now = lead G T i now := by
  unfold Go.Proofs.Yteakbijlcccnnaa.lead
  rw [h.fo hS hT, h.others]
  cases hf : Go.Proofs.Yteakbijlcccnnaa.fo G T (gg G i) with
  | none => rfl
  | some j =>
    obtain ⟨r1, _, r3⟩ := fok_some hf
    simp only []
    rw [h j r1 r3]
theorem agree.trip {G : List Int} {S T : List La} {i : Nat} (h : agree G S T (gg G i)) (hS : Ok G S) (hT : Ok G T) (hi : i < G.length) (now : Int) : agree G (tripS G S i now) (tripS G T i now) (gg G i) := by
  intro k hk hg
  rw [tripS_sg hS hi, tripS_sg hT hi, h.lead hS hT, h.fo hS hT, h k hk hg]
theorem agree.trip_other {G : List Int} {S T : List La} {i : Nat} {g : Int} (h : agree G S T g) (hS : Ok G S) (hi : i < G.length) (hg : gg G i ≠ g) (now : Int) : agree G (tripS G S i now) T g := by
  intro k hk e
  rw [tripS_sg hS hi, if_neg (by rintro rfl; exact hg e), if_neg]
  · exact h k hk e
  · rintro ⟨_, q⟩
    exact hg (((fok_some q).2.2).symm.trans e)
theorem agree.reset {G : List Int} {S T : List La} {i : Nat} {g : Int} (h : agree G S T g) (hS : Ok G S) (hT : Ok G T) (hi : i < G.length) : agree G (S.set i La.z) (T.set i La.z) g := by
  intro k hk e
  rw [reset_sg hS hi, reset_sg hT hi, h k hk e]
theorem agree.reset_other {G : List Int} {S T : List La} {i : Nat} {g : Int} (h : agree G S T g) (hS : Ok G S) (hi : i < G.length) (hg : gg G i ≠ g) : agree G (S.set i La.z) T g := by
  intro k hk e
  rw [reset_sg hS hi, if_neg (by rintro rfl; exact hg e)]
  exact h k hk e

def aG : List Int := [1, 2, 1, 2, 0]
theorem aG_own {i : Int} (h : i = 0 ∨ i = 2) : ∃ k : Nat, i = (k : Int) ∧ k < aG.length ∧ gg aG k = 1 := by
  rcases h with rfl | rfl
  · exact ⟨0, rfl, by decide, by decide⟩
  · exact ⟨2, rfl, by decide, by decide⟩
theorem aG_other {k : Nat} (hk : k < aG.length) (h : ¬ ((k : Int) = 0 ∨ (k : Int) = 2)) : gg aG k ≠ 1 := by
  have : k = 1 ∨ k = 3 ∨ k = 4 := by have : aG.length = 5 := rfl; omega
  rcases this with rfl | rfl | rfl <;> decide
theorem own_trB {S T : List La} {i : Int} (h : agree aG S T 1) (hi : i = 0 ∨ i = 2) : trB T 5 i = trB S 5 i := by
  obtain ⟨k, rfl, hk, hg⟩ := aG_own hi
  unfold trB
  rw [Int.toNat_natCast, h k hk hg]
theorem own_rsB {S T : List La} {i : Int} (h : agree aG S T 1) (hi : i = 0 ∨ i = 2) : rsB T 5 i = rsB S 5 i := by
  obtain ⟨k, rfl, hk, hg⟩ := aG_own hi
  unfold rsB
  rw [Int.toNat_natCast, h k hk hg]
theorem own_trS {S T : List La} {i : Int} (h : agree aG S T 1) (hS : Ok aG S) (hT : Ok aG T) (hi : i = 0 ∨ i = 2) (now : Int) : agree aG (trS aG S 5 i now) (trS aG T 5 i now) 1 := by
  have hb := own_trB h hi
  unfold trS
  rw [hb]
  obtain ⟨k, rfl, hk, hg⟩ := aG_own hi
  split
  · rw [Int.toNat_natCast]
    rw [← hg] at h ⊢
    exact h.trip hS hT hk now
  · exact h
theorem other_trS {S T : List La} {i : Int} (h : agree aG S T 1) (hS : Ok aG S) (hi : ¬ (i = 0 ∨ i = 2)) (now : Int) : agree aG (trS aG S 5 i now) T 1 := by
  unfold trS
  split
  · rename_i hb
    unfold trB at hb
    simp at hb
    obtain ⟨k, rfl⟩ := Int.eq_ofNat_of_zero_le hb.1.1
    rw [Int.toNat_natCast]
    have hk : k < aG.length := by have : aG.length = 5 := rfl; omega
    exact h.trip_other hS hk (aG_other hk hi) now
  · exact h
theorem own_rsS {S T : List La} {i : Int} (h : agree aG S T 1) (hS : Ok aG S) (hT : Ok aG T) (hi : i = 0 ∨ i = 2) : agree aG (rsS S 5 i) (rsS T 5 i) 1 := by
  have hb := own_rsB h hi
  unfold rsS
  rw [hb]
  obtain ⟨k, rfl, hk, hg⟩ := aG_own hi
  split
  · rw [Int.toNat_natCast]
    exact h.reset hS hT hk
  · exact h
theorem other_rsS {S T : List La} {i : Int} (h : agree aG S T 1) (hS : Ok aG S) (hi : ¬ (i = 0 ∨ i = 2)) : agree aG (rsS S 5 i) T 1 := by
  unfold rsS
  split
  · rename_i hb
    unfold rsB at hb
    simp at hb
    obtain ⟨k, rfl⟩ := Int.eq_ofNat_of_zero_le hb.1.1
    rw [Int.toNat_natCast]
    have hk : k < aG.length := by have : aG.length = 5 := rfl; omega
    exact h.reset_other hS hk (aG_other hk hi)
  · exact h

/-- Two rows side by side. -/
structure Two (B C : Nat) (w : World) (tx mx bx : Nat) (Sx : List La) (ty my b_y : Nat) (Sy : List La) (cn n : Nat) (G : List Int) : Prop where
  x : Lt B w tx mx bx cn n G Sx
  y : Lt C w ty my b_y cn n G Sy
  xt : tx < C
  xm : mx < C
  xb : bx < C
section
variable {B C tx mx bx ty my b_y cn cn' n : Nat} {w w' : World} {Sx Sy S' : List La} {G : List Int}
theorem Two.below (h : Two B C w tx mx bx Sx ty my b_y Sy cn n G) (hb : Below w.heap.size w w') : Two B C w' tx mx bx Sx ty my b_y Sy cn n G := ⟨h.x.below hb, h.y.below hb, h.xt, h.xm, h.xb⟩
theorem Two.mono (h : Two B C w tx mx bx Sx ty my b_y Sy cn n G) (hc : cn ≤ cn') : Two B C w tx mx bx Sx ty my b_y Sy cn' n G := ⟨h.x.mono hc, h.y.mono hc, h.xt, h.xm, h.xb⟩
theorem Two.opx (h : Two B C w tx mx bx Sx ty my b_y Sy cn n G) (T : Lt B w' tx mx bx cn' n G S') (hc : cn ≤ cn') (f : Fs [mx, bx] w w') : Two B C w' tx mx bx S' ty my b_y Sy cn' n G := by
  have h1 := h.xt
  have h2 := h.xm
  have h3 := h.xb
  have h4 := h.y.ht
  have h5 := h.y.hm
  have h6 := h.y.hb
  exact ⟨T, (h.y.fs f (by simp; omega) (by simp; omega) (fun _ => by simp; omega)).mono hc, h1, h2, h3⟩
theorem Two.opy (h : Two B C w tx mx bx Sx ty my b_y Sy cn n G) (T : Lt C w' ty my b_y cn' n G S') (hc : cn ≤ cn') (f : Fs [my, b_y] w w') : Two B C w' tx mx bx Sx ty my b_y S' cn' n G := by
  have h1 := h.xt
  have h2 := h.xm
  have h3 := h.xb
  have h4 := h.y.ht
  have h5 := h.y.hm
  have h6 := h.y.hb
  exact ⟨(h.x.fs f (by simp; omega) (by simp; omega) (fun _ => by simp; omega)).mono hc, T, h1, h2, h3⟩
end
def obj (wh gi gt : Int) (oa : Option Addr) (ol oc : Nat) : Obj := .cells #[.int .i64 wh, .int .i64 gi, .int .i64 gt, .slice oa ol oc] 32 (0, 0)
theorem obj_cells {W : World} {g : Nat} {wh gi gt : Int} {oa : Option Addr} {ol oc : Nat} (h : W.heap[g]? = some (obj wh gi gt oa ol oc)) :
    W.cell? ⟨g, 0, none⟩ = some (.int .i64 wh) ∧ W.cell? ⟨g, 1, none⟩ = some (.int .i64 gi) ∧ W.cell? ⟨g, 2, none⟩ = some (.int .i64 gt) ∧ W.cell? ⟨g, 3, none⟩ = some (.slice oa ol oc) := by
  simp [World.cell?, h, obj]
end Go.Proofs.Yteakbijlcccnnaa
