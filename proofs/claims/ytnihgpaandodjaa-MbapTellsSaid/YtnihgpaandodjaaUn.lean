/- Bytes of frames have one cut. -/
import Derived.Test.YtnihgpaandodjaaRs
namespace Go.Proofs.Ytnihgpaandodjaa
set_option linter.unusedVariables false

theorem firstR_put {id u : Nat} {P M : List Nat} (hid : id < 65536) (h1 : 1 ≤ P.length) (h2 : P.length ≤ 253) : firstR (putL id u P ++ M) = .frame id u P := by
  have g0 : (putL id u P ++ M).getD 0 0 = id / 256 := rfl
  have g1 : (putL id u P ++ M).getD 1 0 = id % 256 := rfl
  have g2 : (putL id u P ++ M).getD 2 0 = 0 := rfl
  have g3 : (putL id u P ++ M).getD 3 0 = 0 := rfl
  have g4 : (putL id u P ++ M).getD 4 0 = (P.length + 1) / 256 := rfl
  have g5 : (putL id u P ++ M).getD 5 0 = (P.length + 1) % 256 := rfl
  have g6 : (putL id u P ++ M).getD 6 0 = u := rfl
  have hl : (putL id u P ++ M).length = P.length + 7 + M.length := by rw [List.length_append, putL_len]
  have hd : (putL id u P ++ M).drop 7 = P ++ M := rfl
  have hm : 256 * ((P.length + 1) / 256) + (P.length + 1) % 256 = P.length + 1 := by omega
  rw [firstR_may ((mayF_iff _ _).2 ⟨.inr g2, .inr g3, .inr (by rw [g4, g5]; omega)⟩)]
  have hf : folF (fun i => (putL id u P ++ M).getD i 0) = P.length + 1 := by unfold folF; show 256 * (putL id u P ++ M).getD 4 0 + (putL id u P ++ M).getD 5 0 = _; rw [g4, g5]; exact hm
  rw [hf, hl, if_neg (by omega), g0, g1, g6, hd]
  have e1 : 256 * (id / 256) + id % 256 = id := by omega
  have e2 : P.length + 1 - 1 = P.length := by omega
  rw [e1, e2, List.take_left']
  rfl
def fdt (f : Fd) : Nat × Nat × List Nat := (f.id, f.u, f.P)
theorem firstN_put {id u : Nat} {P M : List Nat} (hid : id < 65536) (h1 : 1 ≤ P.length) (h2 : P.length ≤ 253) : firstN (putL id u P ++ M) = P.length + 7 := by
  unfold firstN; rw [firstR_put hid h1 h2]
theorem fb_cons (f : Fd) (F : List Fd) : fb (f :: F) = putL f.id f.u f.P ++ fb F := by simp [fb]
theorem cut_unique {F G : List Fd} {R S : List Nat} (h : fb F ++ R = fb G ++ S) (hF : ∀ f ∈ F, f.ok) (hG : ∀ f ∈ G, f.ok) (hR : firstN R = 0) (hS : firstN S = 0) : F.map fdt = G.map fdt ∧ R = S := by
  induction F generalizing G with
  | nil =>
    cases G with
    | nil => exact ⟨rfl, by simpa [fb] using h⟩
    | cons g G =>
      have hg := hG g (by simp)
      rw [fb_cons, List.append_assoc] at h
      have : firstN R = g.P.length + 7 := by
        have h' : R = putL g.id g.u g.P ++ (fb G ++ S) := by simpa [fb] using h
        rw [h']; exact firstN_put hg.1 hg.2.2.1 hg.2.2.2.1
      omega
  | cons f F ih =>
    have hf := hF f (by simp)
    cases G with
    | nil =>
      rw [fb_cons, List.append_assoc] at h
      have : firstN S = f.P.length + 7 := by
        have h' : S = putL f.id f.u f.P ++ (fb F ++ R) := by have := h.symm; simpa [fb] using this
        rw [h']; exact firstN_put hf.1 hf.2.2.1 hf.2.2.2.1
      omega
    | cons g G =>
      have hg := hG g (by simp)
      rw [fb_cons, fb_cons, List.append_assoc, List.append_assoc] at h
      have e1 := firstR_put (u := f.u) (M := fb F ++ R) hf.1 hf.2.2.1 hf.2.2.2.1
      have e2 := firstR_put (u := g.u) (M := fb G ++ S) hg.1 hg.2.2.1 hg.2.2.2.1
      rw [h, e2] at e1
      simp only [FR.frame.injEq] at e1
      obtain ⟨h1, h2, h3⟩ := e1
      rw [h1, h2, h3] at h
      obtain ⟨e3, e4⟩ := ih (List.append_cancel_left h) (fun x hx => hF x (by simp [hx])) (fun x hx => hG x (by simp [hx]))
      exact ⟨by simp [fdt, h1, h2, h3, e3], e4⟩
theorem firstN_nil : firstN [] = 0 := by decide
theorem firstE_nil : firstE [] = 0 := by decide
theorem cut_all {F G : List Fd} {R : List Nat} (h : fb G = fb F ++ R) (hF : ∀ f ∈ F, f.ok) (hG : ∀ f ∈ G, f.ok) (hR : firstN R = 0) : F.map fdt = G.map fdt ∧ R = [] :=
  cut_unique (S := []) (by rw [← h, List.append_nil]) hF hG hR firstN_nil
theorem dt_ad (F : List Fd) : (F.map Fd.ad).map dt = F.map fdt := by simp [Fd.ad, dt, fdt]
end Go.Proofs.Ytnihgpaandodjaa
