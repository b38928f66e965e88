/-
  Row.begin.
-/
import Derived.Test.YtmnafocmbcgdiabWQ
namespace Go.Proofs.Ytmnafocmbcgdiab
open Go.ChangeShapes Go.WideShapes Go.ChangeAt Go.RowKit Tri N
set_option maxHeartbeats 1000000
set_option maxRecDepth 100000

theorem idx_as {g o : Nat} {i : Nat} (hi : i < 8) (u : World) : (Instr.indexAt 79 (.pointer (some ⟨g, o, none⟩)) (.int .i64 (i : Int))).run Try.prog u = .ok (.pointer (some ⟨g, o + i, none⟩)) u := by
  simp [go_sem]
  omega
theorem idx_bs {g o : Nat} {i : Nat} (hi : i < 8) (u : World) : (Instr.indexAt 80 (.pointer (some ⟨g, o, none⟩)) (.int .i64 (i : Int))).run Try.prog u = .ok (.pointer (some ⟨g, o + i, none⟩)) u := by
  simp [go_sem]
  omega
theorem fld_as {b : Nat} (u : World) : (Instr.fieldAt 82 (.pointer (some ⟨b, 0, none⟩)) 0).run Try.prog u = .ok (.pointer (some ⟨b, 0, none⟩)) u := by
  simp [go_sem]
theorem fld_bs {b : Nat} (u : World) : (Instr.fieldAt 82 (.pointer (some ⟨b, 0, none⟩)) 1).run Try.prog u = .ok (.pointer (some ⟨b, 8, none⟩)) u := by
  simp [go_sem]

/-- The regions of begin: what is new lies in a new block. -/
def FN (G : World → Nat → Prop) (rr k o n : Nat) (i : Nat) (v : Value) (u : World) : Prop :=
  match i with
  | 0 => v = .pointer (some ⟨rr, 0, none⟩)
  | 1 => v = .int .i64 (k : Int)
  | 2 => ∃ b, v = .pointer (some ⟨b, 0, none⟩) ∧ n ≤ b ∧ G u b
  | 3 => v = .pointer (some ⟨rr, 0, none⟩)
  | 4 => v = .pointer (some ⟨rr, o, none⟩)
  | _ => v = .pointer (some ⟨rr, o + k, none⟩)

theorem FN.keeps (G : World → Nat → Prop) (hG : ∀ b w w', G w b → Below w.heap.size w w' → G w' b) (rr k o n : Nat) : ∀ (i : Nat) (v : Value) (w w' : World), FN G rr k o n i v w → Below w.heap.size w w' → FN G rr k o n i v w' := fun i v w w' h hb => by
  match i with
  | 0 => exact h
  | 1 => exact h
  | 2 => obtain ⟨b, h1, h2, h3⟩ := h; exact ⟨b, h1, h2, hG b w w' h3 hb⟩
  | 3 => exact h
  | 4 => exact h
  | n + 5 => exact h

theorem begin_any {w : World} {rr M k : Nat} {S : List (Option Sl)} (h : RowAt w rr S M) (hk : k < 8) :
    Calls Try.prog 33 #[.pointer (some ⟨rr, 0, none⟩), .int .i64 (k : Int)] w fun e w' => e = .returned (.bool true) ∧ (∃ S' s, S'[k]? = some (some s) ∧ RowAt w' rr S' M ∧ ∀ B, B ≤ w.heap.size → From B S → From B S') ∧ Chg (fun b => b = rr) w w' := by
  have HR := hid h
  have b1 : (k : Int) < 8 := by omega
  have b2 : (0 : Int) ≤ (k : Int) := by omega
  clear h
  go_enter Try.func33, Try.ntmps33
  go_upto_region 1 with fail
  refine wp_region_mono' 6 (fun i => 5 + i) (FN (fun u b => TrieAt u (fun c => c = b) b .nil) rr k 0 w.heap.size) (by kernel_rfl) (by kernel_rfl) (FN.keeps _ (fun b u u' h hb => h.grow hb) _ _ _ _) ?_ ?_
  · simp only [List.take_succ_cons, List.take_zero, N.stepsOk]
    refine ⟨?_, ?_, ?_, ?_, ?_, ?_, trivial⟩
    · intro a u vs hb hold hdep
      exact wp_val (ex_move (.tmp 0) _ rfl (hold 0 (fun j hj => low (by decide)))) ⟨_, rfl, rfl, hb, Below.refl _ _⟩
    · intro a u vs hb hold hdep
      exact wp_val (ex_move (.tmp 1) _ rfl (hold 1 (fun j hj => low (by decide)))) ⟨_, rfl, rfl, hb, Below.refl _ _⟩
    · intro a u vs hb hold hdep
      refine wp_call 10 _ _ rfl (enters_of Try.func10 (by kernel_rfl) rfl) #[] (by simp) ?_
      refine (new_any u).mono ?_
      rintro _ u' ⟨rfl, hu'⟩
      have hb' : Below u.heap.size u u' := by rw [hu']; exact (Below.refl _ _).alloc (Nat.le_refl _) _
      exact ⟨_, rfl, _, rfl, ⟨_, rfl, hb.size, by rw [hu']; exact trie_new u⟩, hb.trans (hb'.mono hb.size), hb'⟩
    · intro a u vs hb hold hdep
      have h0 := hdep ⟨0, .data⟩ (by simp) rfl (by decide)
      exact wp_val (ex_nil ⟨rr, 0, none⟩ (.tmp 5) rfl (h0.1.trans h0.2)) ⟨_, rfl, rfl, hb, Below.refl _ _⟩
    · intro a u vs hb hold hdep
      have h0 := hdep ⟨3, .data⟩ (by simp) rfl (by decide)
      exact wp_val (ex_field _ ⟨rr, 0, none⟩ (.tmp 8) 0 _ rfl (h0.1.trans h0.2) (fld_as u)) ⟨_, rfl, rfl, hb, Below.refl _ _⟩
    · intro a u vs hb hold hdep
      have h4 := hdep ⟨4, .data⟩ (by simp) rfl (by decide)
      have h1 := hdep ⟨1, .data⟩ (by simp) rfl (by decide)
      exact wp_val (ex_index _ (.tmp 9) (.tmp 6) _ _ _ rfl (h4.1.trans h4.2) (h1.1.trans h1.2) (idx_as hk u)) ⟨_, rfl, rfl, hb, Below.refl _ _⟩
  intro vs w1 hb1 hF
  have e0 : vs 0 = .pointer (some ⟨rr, 0, none⟩) := hF 0 (by decide)
  have e5 : vs 5 = .pointer (some ⟨rr, 0 + k, none⟩) := hF 5 (by decide)
  obtain ⟨tb, e2, ht, t1⟩ := hF 2 (by decide)
  rw [Nat.zero_add] at e5
  clear hF
  simp only [List.drop_succ_cons, List.drop_zero, puts, List.range, List.range.loop, List.foldr, Nat.reduceAdd, if_true, e0, e2, e5, Act.put, List.setIfInBounds_toArray, List.set_cons_zero, List.set_cons_succ]
  clear e0 e2 e5
  generalize vs 1 = q1
  generalize vs 3 = q3
  generalize vs 4 = q4
  have hr1 := HR.out.below hb1
  obtain ⟨o, ho, c1, c8⟩ := hr1.at hk
  have c1f : w1.frozen? ⟨rr, k, none⟩ = false := frozen_of_row _ _ _ _ _ hr1.row
  have HB1 := hid hb1
  have HT := hid ht
  have T1 := hid t1
  have HR1 := hid hr1
  clear hb1 ht t1 hr1 ho
  have hpa : ∃ x, pa o = .pointer x := by cases o <;> exact ⟨_, rfl⟩
  obtain ⟨x, hx⟩ := hpa
  rw [hx] at c1
  clear hx
  obtain ⟨w2, HW2⟩ : ∃ w2, Hid (w2 = w1.setCell ⟨rr, k, none⟩ (.pointer (some ⟨tb, 0, none⟩))) := ⟨_, rfl⟩
  have R2 : Hid (w2.heap[rr]? = some (.cells ((rowCells S).setIfInBounds k (.pointer (some ⟨tb, 0, none⟩))) 82)) := by rw [HW2.out]; exact set_row HR1.out.row
  have hpb : ∃ y, pb o = .pointer y := by cases o <;> exact ⟨_, rfl⟩
  obtain ⟨y, hy⟩ := hpb
  rw [hy] at c8
  have C8 : Hid ((rowCells S)[8 + k]? = some (.pointer y)) := by rw [cell_of_row _ _ _ _ _ _ HR1.out.row] at c8; exact c8
  clear hy c8
  go_upto_region 2 with fail
  rw [← HW2.out]
  clear c1 c1f
  refine wp_region_mono' 6 (fun i => 11 + i) (FN (fun u b => RefAt u b (.slice none 0 0) []) rr k 8 w2.heap.size) (by kernel_rfl) (by kernel_rfl) (FN.keeps _ (fun b u u' h hb => h.below hb) _ _ _ _) ?_ ?_
  · simp only [List.take_succ_cons, List.take_zero, N.stepsOk]
    refine ⟨?_, ?_, ?_, ?_, ?_, ?_, trivial⟩
    · intro a u vs hb hold hdep
      exact wp_val (ex_move (.tmp 0) _ rfl (hold 0 (fun j hj => low (by decide)))) ⟨_, rfl, rfl, hb, Below.refl _ _⟩
    · intro a u vs hb hold hdep
      exact wp_val (ex_move (.tmp 1) _ rfl (hold 1 (fun j hj => low (by decide)))) ⟨_, rfl, rfl, hb, Below.refl _ _⟩
    · intro a u vs hb hold hdep
      refine wp_call 27 _ _ rfl (enters_of Try.func27 (by kernel_rfl) rfl) #[] (by simp) ?_
      refine (newR_any u).mono ?_
      rintro _ u' ⟨rfl, hu'⟩
      have hb' : Below u.heap.size u u' := by rw [hu']; exact (Below.refl _ _).alloc (Nat.le_refl _) _
      exact ⟨_, rfl, _, rfl, ⟨_, rfl, hb.size, by rw [hu']; exact ref_new u⟩, hb.trans (hb'.mono hb.size), hb'⟩
    · intro a u vs hb hold hdep
      have h0 := hdep ⟨0, .data⟩ (by simp) rfl (by decide)
      exact wp_val (ex_nil ⟨rr, 0, none⟩ (.tmp 11) rfl (h0.1.trans h0.2)) ⟨_, rfl, rfl, hb, Below.refl _ _⟩
    · intro a u vs hb hold hdep
      have h0 := hdep ⟨3, .data⟩ (by simp) rfl (by decide)
      exact wp_val (ex_field _ ⟨rr, 0, none⟩ (.tmp 14) 1 _ rfl (h0.1.trans h0.2) (fld_bs u)) ⟨_, rfl, rfl, hb, Below.refl _ _⟩
    · intro a u vs hb hold hdep
      have h4 := hdep ⟨4, .data⟩ (by simp) rfl (by decide)
      have h1 := hdep ⟨1, .data⟩ (by simp) rfl (by decide)
      exact wp_val (ex_index _ (.tmp 15) (.tmp 12) _ _ _ rfl (h4.1.trans h4.2) (h1.1.trans h1.2) (idx_bs hk u)) ⟨_, rfl, rfl, hb, Below.refl _ _⟩
  intro vs w3 hb3 hF
  have e0 : vs 0 = .pointer (some ⟨rr, 0, none⟩) := hF 0 (by decide)
  have e5 : vs 5 = .pointer (some ⟨rr, 8 + k, none⟩) := hF 5 (by decide)
  obtain ⟨rb, e2, hrb, f3⟩ := hF 2 (by decide)
  clear hF
  simp only [List.drop_succ_cons, List.drop_zero, puts, List.range, List.range.loop, List.foldr, Nat.reduceAdd, if_true, e0, e2, e5, Act.put, List.setIfInBounds_toArray, List.set_cons_zero, List.set_cons_succ]
  clear e0 e2 e5
  generalize vs 1 = p1
  generalize vs 3 = p3
  generalize vs 4 = p4
  obtain ⟨w4, HW4⟩ : ∃ w4, Hid (w4 = w3.setCell ⟨rr, 8 + k, none⟩ (.pointer (some ⟨rb, 0, none⟩))) := ⟨_, rfl⟩
  obtain ⟨hfin, hcf⟩ := HR.out.begun hk HB1.out HT.out T1.out HW2.out hb3 hrb f3 HW4.out
  have r3 := below_keeps hb3 R2.out (Array.getElem?_eq_some_iff.1 R2.out).1
  have c8f : w3.frozen? ⟨rr, 8 + k, none⟩ = false := frozen_of_row _ _ _ _ _ r3
  have c8 : w3.cell? ⟨rr, 8 + k, none⟩ = some (.pointer y) := by
    rw [cell_of_row _ _ _ _ _ _ r3, Array.getElem?_setIfInBounds_ne (by omega)]
    exact C8.out
  have hS : (S.set k (some ⟨tb, rb, .slice none 0 0, .nil, []⟩))[k]? = some (some ⟨tb, rb, .slice none 0 0, .nil, []⟩) := by
    have := HR.out.len
    rw [List.getElem?_set, if_pos rfl, if_pos (by omega)]
  obtain ⟨o', ho', d1, _⟩ := hfin.at hk
  rw [hS] at ho'
  obtain rfl := Option.some.inj ho'
  unfold pa at d1
  simp only at d1
  have HFROM : Hid (∀ B, B ≤ w.heap.size → From B S → From B (S.set k (some ⟨tb, rb, .slice none 0 0, .nil, []⟩))) := fun B hB hF i u hu => by
    rcases set_at hu with ⟨rfl, e⟩ | ⟨hi, hu2⟩
    · cases e
      have h1 := HT.out
      have h2 := HB1.out.size
      have h3 : w1.heap.size ≤ w2.heap.size := by rw [HW2.out]; simp [World.setCell]
      exact ⟨by show B ≤ tb; omega, by show B ≤ rb; omega, fun b hb => by cases hb⟩
    · exact hF i u hu2
  have HFIN := hid hfin
  have HCF := hid hcf
  have HSK := hid hS
  clear hb3 hrb f3 hfin hcf r3 hS ho'
  go_upto_region 3 with fail
  rw [← HW4.out]
  clear c8 c8f
  go_wp2_with fail
  go_ret
  exact ⟨rfl, ⟨_, _, HSK.out, HFIN.out, HFROM.out⟩, HCF.out⟩
end Go.Proofs.Ytmnafocmbcgdiab
