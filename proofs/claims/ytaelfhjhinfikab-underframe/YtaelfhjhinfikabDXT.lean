/-
  UnderFrame: framed, Take.
-/
import Derived.Test.YtaelfhjhinfikabDXB
import Derived.Test.YtaelfhjhinfikabDU
namespace Go.Proofs.Ytaelfhjhinfikab
open Go.ChangeShapes Go.WideShapes Go.ChangeAt Go.RowKit Me N
set_option maxHeartbeats 8000000
set_option maxRecDepth 100000

theorem exo_eql {o : Oper} {a : Act} {w : World} (x : Operand) (ho : o.op = .binOp .eql 42 x (.const (.int .i64 0)) 42) (hx : a.eval x = .int .i64 0) : (execOp a.eval o).run Try.prog w = .ok (.value (.bool true)) w := by
  simp only [execOp, ho, hx]
  simp [go_sem, eqGuard]
theorem exo_pick {o : Oper} {a : Act} {w : World} (x y : Operand) (z : Value) (ho : o.op = .pick x y (.const (.bool false))) (hx : a.eval x = .bool true) (hy : a.eval y = z) : (execOp a.eval o).run Try.prog w = .ok (.value z) w := by
  simp only [execOp, ho, hx, hy]
  simp [go_sem]
theorem fld_op2 (b : Nat) (u : World) : (Instr.fieldAt 35 (.pointer (some ⟨b, 0, none⟩)) 2).run Try.prog u = .ok (.pointer (some ⟨b, 2, none⟩)) u := by kernel_rfl
theorem load_op2 {b : Nat} {i : Int} {u : World} (h : u.cell? ⟨b, 2, none⟩ = some (.int .i64 i)) : (Instr.loadAt 3 (.pointer (some ⟨b, 2, none⟩))).run Try.prog u = .ok (.int .i64 i) u := by
  simp [Instr.loadAt, go_sem, h]
theorem lowT {j s : Nat} (h2 : s < 64) : 64 + j ≠ s := by omega
/-- What the operations of Take's last region yield. -/
def FTk (s old now cut : Value) (row : Array Value) (b r : Nat) (i : Nat) (v : Value) (w : World) : Prop :=
  match i with
  | 0 => v = .int .i64 0
  | 1 => v = .bool true
  | 2 => v = .bool true
  | 3 => v = s
  | 4 => ∃ b, v = .slice (some ⟨b, 0, none⟩) 1 1 ∧ w.heap[b]? = some (.cells row 41 (0, 0))
  | 5 => v = old
  | 6 => v = .pointer (some ⟨b, 2, none⟩)
  | 7 => v = .int .i64 (r : Int)
  | 8 => v = .pointer (some ⟨b, 2, none⟩)
  | 9 => v = .int .i64 (r : Int)
  | 10 => v = .int .i64 ((r : Int) + 1)
  | 11 => v = cut
  | 12 => v = .bool true
  | 13 => v = .bool true
  | 14 => v = .bool true
  | 15 => v = old
  | 16 => v = now
  | 17 => v = .pointer (some ⟨b, 2, none⟩)
  | 18 => v = .int .i64 (r : Int)
  | 19 => v = .bool true
  | 20 => v = .bool true
  | 21 => v = .bool true
  | _ => True
theorem FTk.keeps (s old now cut : Value) (row : Array Value) (b r : Nat) {i : Nat} {v : Value} {w w' : World} (h : FTk s old now cut row b r i v w) (hb : Below w.heap.size w w') : FTk s old now cut row b r i v w' := by
  unfold FTk at *
  split at h <;> first | exact h | (obtain ⟨b, h1, h2⟩ := h; exact ⟨b, h1, below_keeps hb h2 (Array.getElem?_eq_some_iff.1 h2).1⟩)

theorem framed_take (w0 w : World) (K : Nat → Prop) (pb m x : Nat) (S L : List Pk) (vs : Value) (kk i a : Int) (h : Pn w0 K w pb m S) (hv : SeesS K w vs L)  (hk : kk = 2) :
    Calls Try.prog 21 #[.pointer (some ⟨pb, 0, none⟩), .agg #[.int .i64 kk, vs, .int .i64 i, .int .i64 a, .int .u8 (x : Int)], .int .i64 (m : Int)] w fun e w' => e = .returned (.bool true) ∧ ∃ S', Pn w0 K w' pb m S' := by
  subst hk
  obtain ⟨va, vn, vc, rfl, HVN, hv1, hv2⟩ := hv.shape
  unfold maxLen at hv2
  have hle := h.le
  have HLI := hid (fr_list #[.int .i64 2, .slice va vn vc, .int .i64 i, .int .i64 a, .int .u8 (x : Int)] h hv)
  obtain ⟨w1, HW1⟩ : ∃ w1, Hid (w1 = w.alloc (.cells #[.int .i64 2, .slice va vn vc, .int .i64 i, .int .i64 a, .int .u8 (x : Int)] 35)) := ⟨_, rfl⟩
  obtain ⟨b, HB⟩ : ∃ b, Hid (b = w.heap.size) := ⟨_, rfl⟩
  rw [← HW1.out, ← HB.out] at HLI
  have HCO : Hid (∀ u : World, u.heap[b]? = some (.cells #[.int .i64 2, .slice va vn vc, .int .i64 i, .int .i64 a, .int .u8 (x : Int)] 35 (0, 0)) → u.cell? ⟨b, 0, none⟩ = some (.int .i64 2) ∧ u.cell? ⟨b, 1, none⟩ = some (.slice va vn vc) ∧ u.cell? ⟨b, 2, none⟩ = some (.int .i64 i) ∧ u.cell? ⟨b, 3, none⟩ = some (.int .i64 a) ∧ u.cell? ⟨b, 4, none⟩ = some (.int .u8 (x : Int))) := fun u hr => by
    refine ⟨?_, ?_, ?_, ?_, ?_⟩ <;> (rw [cell_of_row _ _ _ _ _ _ hr]; rfl)
  clear h hv
  go_enter Try.func21, Try.ntmps21
  go_upto_region 1 with fail
  rw [← HW1.out, ← HB.out]
  go_wp2_with fail
  refine HLI.out.mono ?_
  rintro _ w2 ⟨oa, n, oc, K1, E, rfl, hf2, hn⟩
  have HF2 := hid hf2
  have HN := hid hn
  obtain ⟨c0, c1, c2, c3, c4⟩ := HCO.out w2 hf2.rw
  have f1 : n ≤ 4096 := by omega
  obtain ⟨oa', n', oc', hoe, HON, ho1, ho2⟩ := hf2.old.shape
  simp only [Value.slice.injEq] at hoe
  obtain ⟨rfl, rfl, rfl⟩ := hoe
  unfold maxLen at ho2
  clear HLI hf2 hn
  cases hin : inR i S.length with
  | false =>
    rcases inR_false hin with hz | hz
    · have z0 : decide (0 ≤ i) = false := by simp; omega
      have t1 : tkE S i = 3 := by unfold tkE; rw [hin]; rfl
      have t2 : tkP S i = ⟨0, []⟩ := by unfold tkP; rw [hin]; rfl
      have t3 : tkS S i = S := by unfold tkS; rw [hin]; rfl
      clear hin
      have HA : Hid (Calls Try.prog 24 #[.pointer (some ⟨pb, 0, none⟩), .int .i64 i] w2 fun e w' => ∃ a n c, e = .returned (.tuple #[.agg #[.int .u32 0, .slice a n c], .int .i64 3]) ∧ OwnB w' w2.heap.size (.slice a n c) [] ∧ Pn w0 (fun k => K1 k ∨ Value.ownBlock (.slice a n c) = some k) w' pb m S ∧ Keeps (fun k => ¬ K1 k) w2 w') := by
        have h := HF2.out.pn.take i
        rw [t1, t2, t3] at h
        exact h
      clear t1 t2 t3
      go_wp2_with fail
      refine HA.out.mono ?_
      rintro _ w3 ⟨ta, tn, tc, rfl, ho3, hp3, hk3⟩
      have HF3 := hid (HF2.out.step (hp3.less fun _ e => .inl e) hk3)
      obtain ⟨ta', tn', tc', hte, HTN, ht1, ht2⟩ := ho3.shape
      simp only [Value.slice.injEq] at hte
      obtain ⟨rfl, rfl, rfl⟩ := hte
      unfold maxLen at ht2
      obtain ⟨wq, HWQ⟩ : ∃ wq, Hid (wq = w3.alloc (.cells #[.int .u32 0, .slice ta tn tc] 41)) := ⟨_, rfl⟩
      obtain ⟨bq, HBQ⟩ : ∃ b, Hid (b = w3.heap.size) := ⟨_, rfl⟩
      have hbq : Below w3.heap.size w3 wq := by rw [HWQ.out]; exact (Below.refl _ _).alloc (Nat.le_refl _) _
      have rq : wq.heap[bq]? = some (.cells #[.int .u32 0, .slice ta tn tc] 41 (0, 0)) := by rw [HWQ.out, HBQ.out]; exact heap_alloc_new w3 _
      have HRQ := hid rq
      have HOQ := hid (ho3.below hbq)
      have HFQ := hid (HF3.out.below hbq)
      have HLQ := hid HFQ.out.pn.list
      clear HA ho3 hp3 hk3 HF3 rq hbq c0 c1 c2 c3 c4
      obtain ⟨c0, c1, c2, c3, c4⟩ := HCO.out wq HFQ.out.rw
      go_upto_region 6 with fail
      rw [← HWQ.out, ← HBQ.out]
      go_wp2_with fail
      refine HLQ.out.mono ?_
      rintro _ w4 ⟨na, nn, nc, rfl, hb4, ⟨E4, hfl4, hem4, -⟩, hnn⟩
      have HF4 := hid (HFQ.out.below hb4)
      have hnv := hfl4.sees
      rw [hem4] at hnv
      have HNV := hid hnv
      have r4 := below_keeps hb4 HRQ.out (Array.getElem?_eq_some_iff.1 HRQ.out).1
      have HR4 := hid r4
      have HO4 := hid (HOQ.out.below hb4)
      have e0 : w4.cell? ⟨bq, 0, none⟩ = some (.int .u32 0) := by rw [cell_of_row _ _ _ _ _ _ r4]; rfl
      have e1 : w4.cell? ⟨bq, 1, none⟩ = some (.slice ta tn tc) := by rw [cell_of_row _ _ _ _ _ _ r4]; rfl
      clear HLQ hb4 hfl4 hem4 hnv r4 hnn c0 c1 c2 c3 c4 HFQ HOQ HRQ
      obtain ⟨c0, c1, c2, c3, c4⟩ := HCO.out w4 HF4.out.rw
      have htn : tn = 0 := HTN.out
      subst htn
      have HSN := hid (sents_any _ _ _ _ _ w4 HF4.out.old HNV.out)
      go_wp2_with fail
      refine HSN.out.mono ?_
      rintro _ w5 ⟨rfl, hb5⟩
      have HE := hid ((HF4.out.below hb5).done)
      clear HSN hb5
      go_wp2_with fail
      go_ret
      exact ⟨rfl, HE.out⟩
    · have z0 : decide (0 ≤ i) = true := by simp; omega
      have z1 : decide (i < (n : Int)) = false := by simp; have := HN.out; omega
      have t1 : tkE S i = 3 := by unfold tkE; rw [hin]; rfl
      have t2 : tkP S i = ⟨0, []⟩ := by unfold tkP; rw [hin]; rfl
      have t3 : tkS S i = S := by unfold tkS; rw [hin]; rfl
      clear hin
      have HA : Hid (Calls Try.prog 24 #[.pointer (some ⟨pb, 0, none⟩), .int .i64 i] w2 fun e w' => ∃ a n c, e = .returned (.tuple #[.agg #[.int .u32 0, .slice a n c], .int .i64 3]) ∧ OwnB w' w2.heap.size (.slice a n c) [] ∧ Pn w0 (fun k => K1 k ∨ Value.ownBlock (.slice a n c) = some k) w' pb m S ∧ Keeps (fun k => ¬ K1 k) w2 w') := by
        have h := HF2.out.pn.take i
        rw [t1, t2, t3] at h
        exact h
      clear t1 t2 t3
      go_wp2_with fail
      refine HA.out.mono ?_
      rintro _ w3 ⟨ta, tn, tc, rfl, ho3, hp3, hk3⟩
      have HF3 := hid (HF2.out.step (hp3.less fun _ e => .inl e) hk3)
      obtain ⟨ta', tn', tc', hte, HTN, ht1, ht2⟩ := ho3.shape
      simp only [Value.slice.injEq] at hte
      obtain ⟨rfl, rfl, rfl⟩ := hte
      unfold maxLen at ht2
      obtain ⟨wq, HWQ⟩ : ∃ wq, Hid (wq = w3.alloc (.cells #[.int .u32 0, .slice ta tn tc] 41)) := ⟨_, rfl⟩
      obtain ⟨bq, HBQ⟩ : ∃ b, Hid (b = w3.heap.size) := ⟨_, rfl⟩
      have hbq : Below w3.heap.size w3 wq := by rw [HWQ.out]; exact (Below.refl _ _).alloc (Nat.le_refl _) _
      have rq : wq.heap[bq]? = some (.cells #[.int .u32 0, .slice ta tn tc] 41 (0, 0)) := by rw [HWQ.out, HBQ.out]; exact heap_alloc_new w3 _
      have HRQ := hid rq
      have HOQ := hid (ho3.below hbq)
      have HFQ := hid (HF3.out.below hbq)
      have HLQ := hid HFQ.out.pn.list
      clear HA ho3 hp3 hk3 HF3 rq hbq c0 c1 c2 c3 c4
      obtain ⟨c0, c1, c2, c3, c4⟩ := HCO.out wq HFQ.out.rw
      go_upto_region 6 with fail
      rw [← HWQ.out, ← HBQ.out]
      go_wp2_with fail
      refine HLQ.out.mono ?_
      rintro _ w4 ⟨na, nn, nc, rfl, hb4, ⟨E4, hfl4, hem4, -⟩, hnn⟩
      have HF4 := hid (HFQ.out.below hb4)
      have hnv := hfl4.sees
      rw [hem4] at hnv
      have HNV := hid hnv
      have r4 := below_keeps hb4 HRQ.out (Array.getElem?_eq_some_iff.1 HRQ.out).1
      have HR4 := hid r4
      have HO4 := hid (HOQ.out.below hb4)
      have e0 : w4.cell? ⟨bq, 0, none⟩ = some (.int .u32 0) := by rw [cell_of_row _ _ _ _ _ _ r4]; rfl
      have e1 : w4.cell? ⟨bq, 1, none⟩ = some (.slice ta tn tc) := by rw [cell_of_row _ _ _ _ _ _ r4]; rfl
      clear HLQ hb4 hfl4 hem4 hnv r4 hnn c0 c1 c2 c3 c4 HFQ HOQ HRQ
      obtain ⟨c0, c1, c2, c3, c4⟩ := HCO.out w4 HF4.out.rw
      have htn : tn = 0 := HTN.out
      subst htn
      have HSN := hid (sents_any _ _ _ _ _ w4 HF4.out.old HNV.out)
      go_wp2_with fail
      refine HSN.out.mono ?_
      rintro _ w5 ⟨rfl, hb5⟩
      have HE := hid ((HF4.out.below hb5).done)
      clear HSN hb5
      go_wp2_with fail
      go_ret
      exact ⟨rfl, HE.out⟩
  | true =>
    obtain ⟨r, rfl, hr⟩ := inR_true hin
    have HRL := hid hr
    have hrn : r < n := by have := HN.out; omega
    have z0 : decide ((0 : Int) ≤ (r : Int)) = true := by simp
    have z1 : decide ((r : Int) < (n : Int)) = true := by simp; omega
    obtain ⟨p, HPX⟩ : ∃ p, Hid (S[r]? = some p) := ⟨_, hid (List.getElem?_eq_getElem hr)⟩
    obtain ⟨pa, pbs⟩ := p
    have t1 : tkE S (r : Int) = 0 := by unfold tkE; rw [hin]; rfl
    have t2 : tkP S (r : Int) = ⟨pa, pbs⟩ := by unfold tkP; rw [hin, if_pos rfl, Int.toNat_natCast, List.getD_eq_getElem?_getD, HPX.out]; rfl
    have t3 : tkS S (r : Int) = S.eraseIdx r := by unfold tkS; rw [hin, if_pos rfl, Int.toNat_natCast]
    clear hin
    have HA : Hid (Calls Try.prog 24 #[.pointer (some ⟨pb, 0, none⟩), .int .i64 (r : Int)] w2 fun e w' => ∃ a n c, e = .returned (.tuple #[.agg #[.int .u32 (pa : Int), .slice a n c], .int .i64 0]) ∧ OwnB w' w2.heap.size (.slice a n c) pbs ∧ Pn w0 (fun k => K1 k ∨ Value.ownBlock (.slice a n c) = some k) w' pb m (S.eraseIdx r) ∧ Keeps (fun k => ¬ K1 k) w2 w') := by
      have h := HF2.out.pn.take (r : Int)
      rw [t1, t2, t3] at h
      exact h
    clear t1 t2 t3
    go_wp2_with fail
    refine HA.out.mono ?_
    rintro _ w3 ⟨ta, tn, tc, rfl, ho3, hp3, hk3⟩
    have HF3 := hid (HF2.out.step (hp3.less fun _ e => .inl e) hk3)
    obtain ⟨ta', tn', tc', hte, HTN, ht1, ht2⟩ := ho3.shape
    simp only [Value.slice.injEq] at hte
    obtain ⟨rfl, rfl, rfl⟩ := hte
    unfold maxLen at ht2
    obtain ⟨wq, HWQ⟩ : ∃ wq, Hid (wq = w3.alloc (.cells #[.int .u32 (pa : Int), .slice ta tn tc] 41)) := ⟨_, rfl⟩
    obtain ⟨bq, HBQ⟩ : ∃ b, Hid (b = w3.heap.size) := ⟨_, rfl⟩
    have hbq : Below w3.heap.size w3 wq := by rw [HWQ.out]; exact (Below.refl _ _).alloc (Nat.le_refl _) _
    have rq : wq.heap[bq]? = some (.cells #[.int .u32 (pa : Int), .slice ta tn tc] 41 (0, 0)) := by rw [HWQ.out, HBQ.out]; exact heap_alloc_new w3 _
    have HRQ := hid rq
    have HOQ := hid (ho3.below hbq)
    have HFQ := hid (HF3.out.below hbq)
    have HLQ := hid HFQ.out.pn.list
    clear HA ho3 hp3 hk3 HF3 rq hbq c0 c1 c2 c3 c4
    obtain ⟨c0, c1, c2, c3, c4⟩ := HCO.out wq HFQ.out.rw
    go_upto_region 6 with fail
    rw [← HWQ.out, ← HBQ.out]
    go_wp2_with fail
    refine HLQ.out.mono ?_
    rintro _ w4 ⟨na, nn, nc, rfl, hb4, ⟨E4, hfl4, hem4, -⟩, hnn⟩
    have HF4 := hid (HFQ.out.below hb4)
    have hnv := hfl4.sees
    rw [hem4] at hnv
    have HNV := hid hnv
    have r4 := below_keeps hb4 HRQ.out (Array.getElem?_eq_some_iff.1 HRQ.out).1
    have HR4 := hid r4
    have HO4 := hid (HOQ.out.below hb4)
    have e0 : w4.cell? ⟨bq, 0, none⟩ = some (.int .u32 (pa : Int)) := by rw [cell_of_row _ _ _ _ _ _ r4]; rfl
    have e1 : w4.cell? ⟨bq, 1, none⟩ = some (.slice ta tn tc) := by rw [cell_of_row _ _ _ _ _ _ r4]; rfl
    clear HLQ hb4 hfl4 hem4 hnv r4 hnn c0 c1 c2 c3 c4 HFQ HOQ HRQ
    obtain ⟨c0, c1, c2, c3, c4⟩ := HCO.out w4 HF4.out.rw
    have hsp : (S.take (r + 1)).drop r = [⟨pa, pbs⟩] := by
      rw [take_snoc HPX.out, List.drop_append_of_le_length (by rw [List.length_take]; have := HRL.out; omega), List.drop_of_length_le (by rw [List.length_take]; omega)]; rfl
    obtain ⟨ao', HS4, hcut⟩ := HF4.out.old.mid r (r + 1) (r : Int) ((r : Int) + 1) rfl (by omega) (by omega) hrn
    rw [show r + 1 - r = 1 by omega, hsp] at HS4
    rw [show r + 1 - r = 1 by omega] at hcut
    obtain ⟨d3, HD3⟩ : ∃ d, Hid (d = oc - r) := ⟨_, rfl⟩
    rw [← HD3.out] at HS4 hcut
    have had : pa < 4294967296 ∧ ∀ x ∈ pbs, x < 256 := by
      obtain ⟨_, _, _, h3⟩ := HS4.out
      obtain ⟨_, _, u, _, _, _, _, h4, h5⟩ := h3.2.2 0 (by simp)
      exact ⟨h5, h4.bytes⟩
    have HSN : Hid (∀ (u : World) (b' : Nat), Below w4.heap.size w4 u → u.heap[b']? = some (.cells #[.int .u32 (pa : Int), .slice ta tn tc] 41 (0, 0)) → Calls Try.prog 19 #[.slice (some ⟨b', 0, none⟩) 1 1, .slice ao' 1 d3] u fun e w' => e = .returned (.bool true) ∧ Below u.heap.size u w') := fun u b' hu hr => sents_any _ _ [⟨pa, pbs⟩] (fun _ => True) K1 u (sees_one hr trivial (((HO4.out.below hu).sees had.2).weak fun _ _ _ => trivial) had.1) (HS4.out.below hu)
    have hql : bq < w4.heap.size := (Array.getElem?_eq_some_iff.1 HR4.out).1
    have HLD : Hid (∀ u : World, Below w4.heap.size w4 u → u.cell? ⟨bq, 0, none⟩ = some (.int .u32 (pa : Int)) ∧ u.cell? ⟨bq, 1, none⟩ = some (.slice ta tn tc)) := fun u hu => ⟨(hu.cell (p := ⟨bq, _, none⟩) hql).trans e0, (hu.cell (p := ⟨bq, _, none⟩) hql).trans e1⟩
    have hbl : b < w4.heap.size := (Array.getElem?_eq_some_iff.1 HF4.out.rw).1
    have HCB : Hid (∀ u : World, Below w4.heap.size w4 u → u.cell? ⟨b, 2, none⟩ = some (.int .i64 (r : Int))) := fun u hu => (hu.cell (p := ⟨b, _, none⟩) hbl).trans c2
    have HGO : Hid (∀ u : World, Below w4.heap.size w4 u → Calls Try.prog 35 #[.slice oa n oc, .slice na nn nc, .int .i64 (r : Int)] u fun e w' => e = .returned (.bool true) ∧ Below u.heap.size u w') := fun u hu => gone_any u _ _ _ _ S r (HF4.out.below hu).old (HNV.out.below hu) HRL.out
    clear HS4 had hql hbl hsp e0 e1 c0 c1 c2 c3 c4 HO4 HR4
    go_upto_region 9 with fail
    refine wp_region_guarded' 21 (fun i => 64 + i) (FTk (.agg #[.int .u32 (pa : Int), .slice ta tn tc]) (.slice oa n oc) (.slice na nn nc) (.slice ao' 1 d3) #[.int .u32 (pa : Int), .slice ta tn tc] b r) (fun u => Below w4.heap.size w4 u) (fun _ u u' => Below u.heap.size u u') (by kernel_rfl) (by kernel_rfl) (below_drew (Below.refl _ _)) (fun i _ v u u' _ hf _ hr => hf.keeps _ _ _ _ _ _ _ hr) ?_ ?_
    · simp only [List.take_succ_cons, List.take_zero, stepsG]
      refine ⟨?_, ?_, ?_, ?_, ?_, ?_, ?_, ?_, ?_, ?_, ?_, ?_, ?_, ?_, ?_, ?_, ?_, ?_, ?_, ?_, ?_, trivial⟩
      · intro a u vs hb hold hdep
        exact opAt_plain rfl (wp_val (ex_move (.tmp 10) _ rfl (hold 10 (fun j hj => lowT (by decide)))) ⟨_, rfl, rfl, hb, Below.refl _ _⟩)
      · intro a u vs hb hold hdep
        exact opAt_plain rfl (wp_val (exo_eql (.tmp 64) rfl ((hdep ⟨0, .data⟩ (by simp) rfl (by decide)).1.trans (hdep ⟨0, .data⟩ (by simp) rfl (by decide)).2)) ⟨_, rfl, rfl, hb, Below.refl _ _⟩)
      · intro a u vs hb hold hdep
        exact opAt_plain rfl (wp_val (ex_move (.tmp 65) _ rfl ((hdep ⟨1, .data⟩ (by simp) rfl (by decide)).1.trans (hdep ⟨1, .data⟩ (by simp) rfl (by decide)).2)) ⟨_, rfl, rfl, hb, Below.refl _ _⟩)
      · intro a u vs hb hold hdep
        exact opAt_go (j := 2) (t := 66) (b := true) rfl rfl ((hdep ⟨2, .guard⟩ (by simp) rfl (by decide)).1.trans (hdep ⟨2, .guard⟩ (by simp) rfl (by decide)).2) (wp_val (ex_load _ _ (.tmp 9) _ rfl (hold 9 (fun j hj => lowT (by decide))) (load_sno (HLD.out u hb).1 (HLD.out u hb).2)) ⟨_, rfl, rfl, hb, Below.refl _ _⟩)
      · intro a u vs hb hold hdep
        have e3 : a.eval (.tmp 67) = _ := ((hdep ⟨3, .data⟩ (by simp) rfl (by decide)).1.trans (hdep ⟨3, .data⟩ (by simp) rfl (by decide)).2)
        have hba : Below u.heap.size u (u.alloc (.cells #[.int .u32 (pa : Int), .slice ta tn tc] 41)) := (Below.refl _ _).alloc (Nat.le_refl _) _
        exact opAt_go (j := 2) (t := 66) (b := true) rfl rfl ((hdep ⟨2, .guard⟩ (by simp) rfl (by decide)).1.trans (hdep ⟨2, .guard⟩ (by simp) rfl (by decide)).2) (wp_val (exo_bs _ 1 _ _ _ rfl (by simp only [List.map_toArray, List.map_cons, List.map_nil, e3]) (build_1 _ _ u)) ⟨_, rfl, ⟨_, rfl, heap_alloc_new u _⟩, hb.trans (hba.mono hb.size), hba⟩)
      · intro a u vs hb hold hdep
        exact opAt_go (j := 2) (t := 66) (b := true) rfl rfl ((hdep ⟨2, .guard⟩ (by simp) rfl (by decide)).1.trans (hdep ⟨2, .guard⟩ (by simp) rfl (by decide)).2) (wp_val (ex_move (.tmp 7) _ rfl (hold 7 (fun j hj => lowT (by decide)))) ⟨_, rfl, rfl, hb, Below.refl _ _⟩)
      · intro a u vs hb hold hdep
        exact opAt_go (j := 2) (t := 66) (b := true) rfl rfl ((hdep ⟨2, .guard⟩ (by simp) rfl (by decide)).1.trans (hdep ⟨2, .guard⟩ (by simp) rfl (by decide)).2) (wp_val (ex_field _ _ (.tmp 4) 2 _ rfl (hold 4 (fun j hj => lowT (by decide))) (fld_op2 b u)) ⟨_, rfl, rfl, hb, Below.refl _ _⟩)
      · intro a u vs hb hold hdep
        exact opAt_go (j := 2) (t := 66) (b := true) rfl rfl ((hdep ⟨2, .guard⟩ (by simp) rfl (by decide)).1.trans (hdep ⟨2, .guard⟩ (by simp) rfl (by decide)).2) (wp_val (ex_load _ _ (.tmp 70) _ rfl ((hdep ⟨6, .data⟩ (by simp) rfl (by decide)).1.trans (hdep ⟨6, .data⟩ (by simp) rfl (by decide)).2) (load_op2 (HCB.out u hb))) ⟨_, rfl, rfl, hb, Below.refl _ _⟩)
      · intro a u vs hb hold hdep
        exact opAt_go (j := 2) (t := 66) (b := true) rfl rfl ((hdep ⟨2, .guard⟩ (by simp) rfl (by decide)).1.trans (hdep ⟨2, .guard⟩ (by simp) rfl (by decide)).2) (wp_val (ex_field _ _ (.tmp 4) 2 _ rfl (hold 4 (fun j hj => lowT (by decide))) (fld_op2 b u)) ⟨_, rfl, rfl, hb, Below.refl _ _⟩)
      · intro a u vs hb hold hdep
        exact opAt_go (j := 2) (t := 66) (b := true) rfl rfl ((hdep ⟨2, .guard⟩ (by simp) rfl (by decide)).1.trans (hdep ⟨2, .guard⟩ (by simp) rfl (by decide)).2) (wp_val (ex_load _ _ (.tmp 72) _ rfl ((hdep ⟨8, .data⟩ (by simp) rfl (by decide)).1.trans (hdep ⟨8, .data⟩ (by simp) rfl (by decide)).2) (load_op2 (HCB.out u hb))) ⟨_, rfl, rfl, hb, Below.refl _ _⟩)
      · intro a u vs hb hold hdep
        exact opAt_go (j := 2) (t := 66) (b := true) rfl rfl ((hdep ⟨2, .guard⟩ (by simp) rfl (by decide)).1.trans (hdep ⟨2, .guard⟩ (by simp) rfl (by decide)).2) (wp_val (exo_add (.tmp 73) (r : Int) rfl ((hdep ⟨9, .data⟩ (by simp) rfl (by decide)).1.trans (hdep ⟨9, .data⟩ (by simp) rfl (by decide)).2) (by omega) (by omega)) ⟨_, rfl, rfl, hb, Below.refl _ _⟩)
      · intro a u vs hb hold hdep
        exact opAt_go (j := 2) (t := 66) (b := true) rfl rfl ((hdep ⟨2, .guard⟩ (by simp) rfl (by decide)).1.trans (hdep ⟨2, .guard⟩ (by simp) rfl (by decide)).2) (wp_val (exo_cut _ (.tmp 69) (.tmp 71) (.tmp 74) _ _ _ _ rfl ((hdep ⟨5, .data⟩ (by simp) rfl (by decide)).1.trans (hdep ⟨5, .data⟩ (by simp) rfl (by decide)).2) ((hdep ⟨7, .data⟩ (by simp) rfl (by decide)).1.trans (hdep ⟨7, .data⟩ (by simp) rfl (by decide)).2) ((hdep ⟨10, .data⟩ (by simp) rfl (by decide)).1.trans (hdep ⟨10, .data⟩ (by simp) rfl (by decide)).2) (hcut u)) ⟨_, rfl, rfl, hb, Below.refl _ _⟩)
      · intro a u vs hb hold hdep
        have h4 := hdep ⟨4, .data⟩ (by simp) rfl (by decide)
        obtain ⟨b', v4, f4⟩ := h4.2
        have e4 : a.eval (.tmp 68) = .slice (some ⟨b', 0, none⟩) 1 1 := h4.1.trans v4
        have e9 : a.eval (.tmp 75) = .slice ao' 1 d3 := ((hdep ⟨11, .data⟩ (by simp) rfl (by decide)).1.trans (hdep ⟨11, .data⟩ (by simp) rfl (by decide)).2)
        refine opAt_go (j := 2) (t := 66) (b := true) rfl rfl ((hdep ⟨2, .guard⟩ (by simp) rfl (by decide)).1.trans (hdep ⟨2, .guard⟩ (by simp) rfl (by decide)).2) ?_
        refine wp_call 19 _ _ rfl (enters_of Try.func19 (by kernel_rfl) rfl) #[Value.slice (some ⟨b', 0, none⟩) 1 1, .slice ao' 1 d3] (by simp only [List.map_toArray, List.map_cons, List.map_nil, e4, e9]) ?_
        refine (HSN.out u b' hb f4).mono ?_
        rintro _ u' ⟨rfl, hb'⟩
        exact ⟨_, rfl, _, rfl, rfl, hb.trans (hb'.mono hb.size), hb'⟩
      · intro a u vs hb hold hdep
        exact opAt_plain rfl (wp_val (exo_pick (.tmp 66) (.tmp 76) _ rfl ((hdep ⟨2, .data⟩ (by simp) rfl (by decide)).1.trans (hdep ⟨2, .data⟩ (by simp) rfl (by decide)).2) ((hdep ⟨12, .data⟩ (by simp) rfl (by decide)).1.trans (hdep ⟨12, .data⟩ (by simp) rfl (by decide)).2)) ⟨_, rfl, rfl, hb, Below.refl _ _⟩)
      · intro a u vs hb hold hdep
        exact opAt_plain rfl (wp_val (ex_move (.tmp 77) _ rfl ((hdep ⟨13, .data⟩ (by simp) rfl (by decide)).1.trans (hdep ⟨13, .data⟩ (by simp) rfl (by decide)).2)) ⟨_, rfl, rfl, hb, Below.refl _ _⟩)
      · intro a u vs hb hold hdep
        exact opAt_go (j := 14) (t := 78) (b := true) rfl rfl ((hdep ⟨14, .guard⟩ (by simp) rfl (by decide)).1.trans (hdep ⟨14, .guard⟩ (by simp) rfl (by decide)).2) (wp_val (ex_move (.tmp 7) _ rfl (hold 7 (fun j hj => lowT (by decide)))) ⟨_, rfl, rfl, hb, Below.refl _ _⟩)
      · intro a u vs hb hold hdep
        exact opAt_go (j := 14) (t := 78) (b := true) rfl rfl ((hdep ⟨14, .guard⟩ (by simp) rfl (by decide)).1.trans (hdep ⟨14, .guard⟩ (by simp) rfl (by decide)).2) (wp_val (ex_move (.tmp 11) _ rfl (hold 11 (fun j hj => lowT (by decide)))) ⟨_, rfl, rfl, hb, Below.refl _ _⟩)
      · intro a u vs hb hold hdep
        exact opAt_go (j := 14) (t := 78) (b := true) rfl rfl ((hdep ⟨14, .guard⟩ (by simp) rfl (by decide)).1.trans (hdep ⟨14, .guard⟩ (by simp) rfl (by decide)).2) (wp_val (ex_field _ _ (.tmp 4) 2 _ rfl (hold 4 (fun j hj => lowT (by decide))) (fld_op2 b u)) ⟨_, rfl, rfl, hb, Below.refl _ _⟩)
      · intro a u vs hb hold hdep
        exact opAt_go (j := 14) (t := 78) (b := true) rfl rfl ((hdep ⟨14, .guard⟩ (by simp) rfl (by decide)).1.trans (hdep ⟨14, .guard⟩ (by simp) rfl (by decide)).2) (wp_val (ex_load _ _ (.tmp 81) _ rfl ((hdep ⟨17, .data⟩ (by simp) rfl (by decide)).1.trans (hdep ⟨17, .data⟩ (by simp) rfl (by decide)).2) (load_op2 (HCB.out u hb))) ⟨_, rfl, rfl, hb, Below.refl _ _⟩)
      · intro a u vs hb hold hdep
        have g1 : a.eval (.tmp 79) = .slice oa n oc := ((hdep ⟨15, .data⟩ (by simp) rfl (by decide)).1.trans (hdep ⟨15, .data⟩ (by simp) rfl (by decide)).2)
        have g2 : a.eval (.tmp 80) = .slice na nn nc := ((hdep ⟨16, .data⟩ (by simp) rfl (by decide)).1.trans (hdep ⟨16, .data⟩ (by simp) rfl (by decide)).2)
        have g3 : a.eval (.tmp 82) = .int .i64 (r : Int) := ((hdep ⟨18, .data⟩ (by simp) rfl (by decide)).1.trans (hdep ⟨18, .data⟩ (by simp) rfl (by decide)).2)
        refine opAt_go (j := 14) (t := 78) (b := true) rfl rfl ((hdep ⟨14, .guard⟩ (by simp) rfl (by decide)).1.trans (hdep ⟨14, .guard⟩ (by simp) rfl (by decide)).2) ?_
        refine wp_call 35 _ _ rfl (enters_of Try.func35 (by kernel_rfl) rfl) #[Value.slice oa n oc, .slice na nn nc, .int .i64 (r : Int)] (by simp only [List.map_toArray, List.map_cons, List.map_nil, g1, g2, g3]) ?_
        refine (HGO.out u hb).mono ?_
        rintro _ u' ⟨rfl, hb'⟩
        exact ⟨_, rfl, _, rfl, rfl, hb.trans (hb'.mono hb.size), hb'⟩
      · intro a u vs hb hold hdep
        exact opAt_plain rfl (wp_val (exo_pick (.tmp 78) (.tmp 83) _ rfl ((hdep ⟨14, .data⟩ (by simp) rfl (by decide)).1.trans (hdep ⟨14, .data⟩ (by simp) rfl (by decide)).2) ((hdep ⟨19, .data⟩ (by simp) rfl (by decide)).1.trans (hdep ⟨19, .data⟩ (by simp) rfl (by decide)).2)) ⟨_, rfl, rfl, hb, Below.refl _ _⟩)
    intro vs u hb hF
    have HE := hid ((HF4.out.below hb).done)
    have f20 : vs 20 = .bool true := hF 20 (by decide)
    simp only [List.drop_succ_cons, List.drop_zero, puts, List.range, List.range.loop, List.foldr, Nat.reduceAdd, if_true, f20, Act.put, List.setIfInBounds_toArray, List.set_cons_zero, List.set_cons_succ]
    clear hF f20 hb
    generalize vs 0 = u0 at *
    generalize vs 1 = u1 at *
    generalize vs 2 = u2 at *
    generalize vs 3 = u3 at *
    generalize vs 4 = u4 at *
    generalize vs 5 = u5 at *
    generalize vs 6 = u6 at *
    generalize vs 7 = u7 at *
    generalize vs 8 = u8 at *
    generalize vs 9 = u9 at *
    generalize vs 10 = u10 at *
    generalize vs 11 = u11 at *
    generalize vs 12 = u12 at *
    generalize vs 13 = u13 at *
    generalize vs 14 = u14 at *
    generalize vs 15 = u15 at *
    generalize vs 16 = u16 at *
    generalize vs 17 = u17 at *
    generalize vs 18 = u18 at *
    generalize vs 19 = u19 at *
    clear hcut
    go_wp2_with fail
    go_ret
    exact ⟨rfl, HE.out⟩
end Go.Proofs.Ytaelfhjhinfikab
