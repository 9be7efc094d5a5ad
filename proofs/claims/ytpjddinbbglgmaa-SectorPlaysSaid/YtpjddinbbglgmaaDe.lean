/- The document's New. -/
import Derived.Test.YtpjddinbbglgmaaDd
import Derived.Test.YtpjddinbbglgmaaLast
import Derived.Deep.AppendLies
namespace Go.Proofs.Ytpjddinbbglgmaa
set_option linter.unusedVariables false
set_option linter.unusedSimpArgs false
open Go.ChangeShapes Go.WideShapes Go.ChangeAt Go.RowKit

theorem info9 : (Try.prog.info? 9).map (fun i => (i.zero, i.size, i.bytes)) = some (some (.string ByteArray.empty), 1, 16) := by kernel_rfl
def Z64 : ByteArray := strN (List.replicate 64 0)
/-- k sectors laid. -/
def Laid (w : World) (k : Nat) (W : World) : Prop :=
  ∃ v, W.heap[w.heap.size]? = some (.cells #[v, .bool false, .int .i64 (-1), .int .i64 0, .int .i64 0, .int .i64 (-1), .string ByteArray.empty, .string ByteArray.empty] 50 (0, 0)) ∧ W.ownsRow (w.heap.size + 1) 9 1 v k (List.replicate k (.string Z64)) ∧ Below w.heap.size w W
theorem own_not {B : Nat} {w : World} {e : TypeId} {sz n : Nat} {v : Value} {xs : List Value} {b : Nat} (h : w.ownsRow B e sz v n xs) (hb : b < B) : some b ≠ v.ownBlock := by
  intro he
  have := (World.ownsRow.lt h b he.symm).1
  omega
theorem own_setO {B : Nat} {w : World} {e : TypeId} {sz n : Nat} {v : Value} {xs : List Value} {b k : Nat} {u : Value} (h : w.ownsRow B e sz v n xs) (hb : b < B) : (w.setCell ⟨b, k, none⟩ u).ownsRow B e sz v n xs := by
  obtain ⟨hl, q | ⟨g, cap, cur, hv, hg, hbk, r⟩⟩ := h
  · exact ⟨hl, .inl q⟩
  · exact ⟨hl, .inr ⟨g, cap, cur, hv, hg, (heap_setCell_other (by omega)).trans hbk, r⟩⟩
theorem own_keepS {B : Nat} {w w' : World} {e : TypeId} {sz n : Nat} {v : Value} {xs : List Value} (h : w.ownsRow B e sz v n xs) (hb : Below w.heap.size w w') : w'.ownsRow B e sz v n xs := by
  obtain ⟨hl, q | ⟨g, cap, cur, hv, hg, hbk, r⟩⟩ := h
  · exact ⟨hl, .inl q⟩
  · exact ⟨hl, .inr ⟨g, cap, cur, hv, hg, (hb.block g (blk_lt hbk)).trans hbk, r⟩⟩
theorem laid_end {w W : World} {m : Nat} (h : Laid w m W) (m1 : 1 ≤ m) (m2 : m ≤ 256) : ∃ g c, Rk w.heap.size W w.heap.size g c m none false 0 (List.replicate (m * 64) 0) ∧ Below w.heap.size w W := by
  obtain ⟨v, hp, ho, hb⟩ := h
  obtain ⟨hl, ⟨_, h0⟩ | ⟨g, cap, cur, rfl, hg, hbk, h2, h3, h4, h5⟩⟩ := ho
  · omega
  refine ⟨g, cap, ⟨Nat.le_refl _, by omega, by omega, ⟨0, -1, ByteArray.empty, ByteArray.empty, hp, by omega, fun x e => by cases e⟩, ⟨cur, hbk, fun i hi => ?_⟩, by simp, m1, m2, by intro b hb; rw [List.mem_replicate] at hb; omega⟩, hb⟩
  have e1 : cur.toList[i]? = (List.replicate m (Value.string Z64))[i]? := by
    rw [← h5, List.getElem?_take_of_lt (by omega)]
  rw [← Array.getElem?_toList, e1, List.getElem?_replicate, if_pos hi]
  congr 2
  unfold Z64 sec
  congr 1
  have : (i + 1) * 64 ≤ m * 64 := Nat.mul_le_mul_right _ hi
  rw [List.drop_replicate, List.take_replicate]
  congr 1
  omega

set_option maxRecDepth 100000 in
set_option maxHeartbeats 4000000 in
theorem rnew_any (n : Int) (w : World) : Calls Try.prog 10 #[.int .i64 n] w fun e w' => e = .returned (.pointer (some ⟨w.heap.size, 0, none⟩)) ∧ ∃ g c, Rk w.heap.size w' w.heap.size g c (wi n 1 256).toNat none false 0 (List.replicate ((wi n 1 256).toNat * 64) 0) ∧ Below w.heap.size w w' := by
  have hw : 1 ≤ wi n 1 256 ∧ wi n 1 256 ≤ 256 := by unfold wi; (repeat' split) <;> omega
  obtain ⟨m, hm⟩ : ∃ m, m = (wi n 1 256).toNat := ⟨_, rfl⟩
  have hwm : wi n 1 256 = (m : Int) := by omega
  have hm1 : 1 ≤ m := by omega
  have hm2 : m ≤ 256 := by omega
  rw [← hm]
  obtain ⟨P, hP⟩ : ∃ P, P = (fun (e : Ending) (w' : World) => e = .returned (.pointer (some ⟨w.heap.size, 0, none⟩)) ∧ ∃ g c, Rk w.heap.size w' w.heap.size g c m none false 0 (List.replicate (m * 64) 0) ∧ Below w.heap.size w w') := ⟨_, rfl⟩
  rw [← hP]
  have FIN : Hid (∀ W, Laid w m W → P (.returned (.pointer (some ⟨w.heap.size, 0, none⟩))) W) := Lib.hid (fun W h => by rw [hP]; exact ⟨rfl, laid_end h hm1 hm2⟩)
  have HWM := Lib.hid hwm
  have HC : Hid ((n < 1 ∧ m = 1) ∨ (1 ≤ n ∧ n ≤ 256 ∧ (m : Int) = n) ∨ (256 < n ∧ m = 256)) := Lib.hid (by unfold wi at hwm; (repeat' split at hwm) <;> omega)
  have L0 : Hid (Laid w 0 (w.alloc (.cells #[.slice none 0 0, .bool false, .int .i64 (-1), .int .i64 0, .int .i64 0, .int .i64 (-1), .string ByteArray.empty, .string ByteArray.empty] 50 (0, 0)))) := Lib.hid ⟨_, heap_alloc_new w _, ⟨rfl, .inl ⟨rfl, rfl⟩⟩, (Below.refl _ _).alloc (Nat.le_refl _) _⟩
  obtain ⟨ti, hti, hz0, hz1, hz2⟩ := info_parts info9
  have HTI := Lib.hid (And.intro hti (And.intro hz0 (And.intro hz1 hz2)))
  clear hw hwm hm hP hti hz0 hz1 hz2
  go_enter Try.func10, Try.ntmps10
  go_wp2_with fail
  go_loopw [4] (fun iv wr => ∃ k : Nat, k ≤ m ∧ iv = .int .i64 k ∧ Laid w k wr) (fun iv _ => m - (intOf iv).toNat)
  case atStart => exact ⟨0, Nat.zero_le _, rfl, L0.out⟩
  case round =>
    obtain ⟨wo, rfl⟩ : ∃ wo : World, wo = wr := ⟨_, rfl⟩
    obtain ⟨k, hk, rfl, hL⟩ := hrel
    have HL := Lib.hid hL
    clear hL
    by_cases hkm : k < m
    · obtain ⟨v, hp, ho, hb⟩ := HL.out
      have c0 : wo.cell? ⟨w.heap.size, 0, none⟩ = some v := by simp [World.cell?, hp]
      have g0 : Below wo.heap.size wo wo.drew := (Below.refl _ _).drew
      have HPB := Lib.hid hp
      have HO := Lib.hid ho
      have HB := Lib.hid hb
      clear hp ho hb HL
      have hlt : w.heap.size < wo.heap.size := blk_lt HPB.out
      have ZR : Calls Try.prog 27 #[.int .i64 64] wo.drew fun e w' => e = .returned (.string Z64) ∧ Below wo.drew.heap.size wo.drew w' := zeros_any 64 (by omega) wo.drew
      obtain ⟨hti, hz0, hz1, hz2⟩ := HTI.out
      have hbs : w.heap.size + 1 ≤ wo.heap.size := hlt
      have HLT := Lib.hid hlt
      go_upto_if 1 with fail
      all_goals try (exfalso; have := HC.out; omega)
      all_goals
       refine wp_region_last (fun w' => w'.cell? ⟨w.heap.size, 0, none⟩ = some v) 10 (by kernel_rfl) (fun hv => ?_)
       have hS0 : wo.drew.cell? ⟨w.heap.size, 0, none⟩ = some v := c0
       refine wpAnyM_take 0 ?_ rfl (by kernel_rfl) (fun _ _ _ h => h) (by assumption) (by assumption) (Or.inl ⟨by rfl, ?_⟩) ?_
       rotate_left
       · intro wS hSw
         try dsimp only at hSw
         go_simp
         try with_reducible rfl
       intro hv0
       simp only [Act.put, List.setIfInBounds_toArray, List.set_cons_zero, List.set_cons_succ]
       refine wpAnyM_take 1 ?_ rfl (by kernel_rfl) (fun _ _ _ h => h) (by assumption) (by assumption) (Or.inl ⟨by rfl, ?_⟩) ?_
       rotate_left
       · intro wS hSw
         try dsimp only at hSw
         go_simp
         try with_reducible rfl
       intro hv1
       simp only [Act.put, List.setIfInBounds_toArray, List.set_cons_zero, List.set_cons_succ]
       refine wpAnyM_take 2 ?_ rfl (by kernel_rfl) (fun _ _ _ h => h) (by assumption) (by assumption) (Or.inl ⟨by rfl, ?_⟩) ?_
       rotate_left
       · intro wS hSw
         try dsimp only at hSw
         go_simp
         try with_reducible rfl
       intro hv2
       simp only [Act.put, List.setIfInBounds_toArray, List.set_cons_zero, List.set_cons_succ]
       refine wpAnyM_take 3 ?_ rfl (by kernel_rfl) (fun _ _ _ h => h) (by assumption) (by assumption) (Or.inl ⟨by rfl, ?_⟩) ?_
       rotate_left
       · intro wS hSw
         try dsimp only at hSw
         go_simp
         try with_reducible rfl
       intro hv3
       simp only [Act.put, List.setIfInBounds_toArray, List.set_cons_zero, List.set_cons_succ]
       refine wpAnyM_take 4 ?_ rfl (by kernel_rfl) (fun _ _ _ h => h) (by assumption) (by assumption) (Or.inl ⟨by rfl, ?_⟩) ?_
       rotate_left
       · intro wS hSw
         try dsimp only at hSw
         go_simp
         try with_reducible rfl
       intro hv4
       simp only [Act.put, List.setIfInBounds_toArray, List.set_cons_zero, List.set_cons_succ]
       refine wpAnyM_one 5 rfl (by kernel_rfl) (by decide) (by assumption) (fun hv5 K hK => ?_)
       go_simp
       refine ZR.mono ?_
       rintro e w6 ⟨rfl, z6⟩
       have q6 : Below wo.heap.size wo w6 := g0.trans (z6.mono g0.size)
       have hS6 : w6.cell? ⟨w.heap.size, 0, none⟩ = some v := (q6.cell (p := ⟨w.heap.size, 0, none⟩) HLT.out).trans c0
       refine hK.out _ _ hS6 ?_
       clear hK K z6
       try simp only [Act.put, List.setIfInBounds_toArray, List.set_cons_zero, List.set_cons_succ]
       refine wpAnyM_one 6 rfl (by kernel_rfl) (by decide) (by assumption) (fun hv6 K hK => ?_)
       go_simp
       have q7 : Below wo.heap.size wo (w6.alloc (.cells #[.string Z64] 9 (0, 0))) := q6.alloc q6.size _
       have hS7 := (q7.cell (p := ⟨w.heap.size, 0, none⟩) HLT.out).trans c0
       refine hK.out _ _ hS7 ?_
       clear hK K
       try simp only [Act.put, List.setIfInBounds_toArray, List.set_cons_zero, List.set_cons_succ]
       refine wpAnyM_one 7 rfl (by kernel_rfl) (by decide) (by assumption) (fun hv7 K hK => ?_)
       refine step_append_lies _ rfl (.tmp 18) (.tmp 20) 48 rfl (w.heap.size + 1) 9 ti (.string ByteArray.empty) 1 16 Try.underlying48 hti hz0 hz1 hz2 rfl (by decide) v k (List.replicate k (.string Z64)) rfl (own_keepS HO.out q7) ⟨_, 0, none⟩ 1 1 [.string Z64] rfl rfl (World.news_of_block (heap_alloc_new w6 _)) (by simp [Value.oneCell']) (by omega) (by unfold maxLen; omega) (by omega) (Nat.le_trans hbs q7.size) _ rfl ?_
       intro g' cap' w8 ho8 hg8 _ _
       have hb8 : Below (w.heap.size + 1) wo w8 := (q7.mono hbs).grown hg8 (Nat.le_trans hbs q7.size) (fun q hq => (World.ownsRow.lt (own_keepS HO.out q7) q hq).1)
       have hp8 : w8.heap[w.heap.size]? = some (.cells #[v, .bool false, .int .i64 (-1), .int .i64 0, .int .i64 0, .int .i64 (-1), .string ByteArray.empty, .string ByteArray.empty] 50 (0, 0)) := (hb8.block _ (by omega)).trans HPB.out
       have hS8 : w8.cell? ⟨w.heap.size, 0, none⟩ = some v := by simp [World.cell?, hp8]
       have fz8 : w8.frozen? ⟨w.heap.size, 0, none⟩ = false := by simp [World.frozen?, hp8]
       have NXT : Hid (Laid w (k + 1) (w8.setCell ⟨w.heap.size, 0, none⟩ (.slice (some ⟨g', 0, none⟩) (k + 1) cap'))) := Lib.hid (by
         refine ⟨_, heap_setCell_same hp8, ?_, ?_⟩
         · rw [List.replicate_succ']; exact own_setO ho8 (by omega)
         · exact (HB.out.trans (hb8.mono (Nat.le_succ _))).setCell (Nat.le_refl _) _)
       refine hK.out _ _ hS8 ?_
       clear hK K ho8 hg8 hp8 hb8 hS7 q7 q6 hS6 ZR
       try simp only [Act.put, List.setIfInBounds_toArray, List.set_cons_zero, List.set_cons_succ]
       refine wpAnyM_take 8 ?_ rfl (by kernel_rfl) (fun _ _ _ h => h) (by assumption) (by assumption) (Or.inl ⟨by rfl, ?_⟩) ?_
       rotate_left
       · intro wS hSw
         try dsimp only at hSw
         go_simp
         try with_reducible rfl
       intro hv8
       simp only [Act.put, List.setIfInBounds_toArray, List.set_cons_zero, List.set_cons_succ]
       refine wpAnyM_take 9 ?_ rfl (by kernel_rfl) (fun _ _ _ h => h) (by assumption) (by assumption) (Or.inl ⟨by rfl, ?_⟩) ?_
       rotate_left
       · intro wS hSw
         try dsimp only at hSw
         go_simp
         try with_reducible rfl
       intro hv9
       simp only [Act.put, List.setIfInBounds_toArray, List.set_cons_zero, List.set_cons_succ]
       refine wpAnyM_last rfl (by kernel_rfl) (by kernel_rfl) (fun K hK => ?_)
       go_simp
       refine hK.out _ _ ?_
       clear hK K
       clear hv hv0 hv1 hv2 hv3 hv4 hv5 hv6 hv7 hv8 hv9
       go_wp2_with fail
       go_roundw
       case rel => exact ⟨k + 1, by omega, by go_num, NXT.out⟩
       case measure => simp [intOf]; omega
    · have hk' : k = m := by omega
      subst hk'
      go_wp2_with fail
      all_goals try (exfalso; have := HC.out; omega)
      all_goals exact FIN.out _ HL.out
end Go.Proofs.Ytpjddinbbglgmaa
