/-
  weftlaw7.datagrams.
-/
import Derived.Test.YtcelcnafcfefhabTH
import Derived.Test.YtcelcnafcfefhabTI
import Derived.Test.YtcelcnafcfefhabLX
namespace Go.Proofs.Ytcelcnafcfefhab.N
open Go.ChangeShapes Go.WideShapes Go.ChangeAt Go.RowKit
set_option maxHeartbeats 8000000
set_option maxRecDepth 100000

def itCells (src dst : Nat) (x : Tn.Dg) (vb : Value) (sum : Bool) (vr : Value) : Array Value := #[.int .u32 (src : Int), .int .u32 (dst : Int), .int .u16 (x.s : Int), .int .u16 (x.d : Int), vb, .bool sum, vr]

/-- A list with room behind it, cut to what was handed in. -/
theorem room_cut {w : World} {base : Nat} {v : Value} {L R : List Nat} (h : OwnB w base v (L ++ R)) (hb : ∀ x ∈ L ++ R, x < 256) :
    ∃ ao n cap, v = .slice ao n cap ∧ SeesB w (.slice ao n cap) (L ++ R) ∧ SeesB w (.slice ao L.length n) L ∧ ∀ u : World, (Instr.sliceAt 29 (.slice ao n cap) none (some (.int .i64 (L.length : Int))) (some (.int .i64 (n : Int)))).run Try.prog u = .ok (.slice ao L.length n) u := by
  have hs := h.sees hb
  obtain ⟨ao, n, cap, rfl, HN, hn1, hn2⟩ := hs.shape
  have hn : n = L.length + R.length := by rw [HN.out, List.length_append]
  refine ⟨ao, n, cap, rfl, hs, ?_, fun u => ?_⟩
  · obtain ⟨ao1, cap1, hv, h1, h2, h3⟩ := hs
    simp at hv
    obtain ⟨rfl, _, rfl⟩ := hv
    refine ⟨ao, n, rfl, ⟨by omega, fun hc => ?_⟩, by omega, fun j hj => ?_⟩
    · have := h1.2 hc
      omega
    · obtain ⟨g, off, ha, hg, hc, hx⟩ := h3 j (by rw [List.length_append]; omega)
      refine ⟨g, off, ha, hg, ?_, ?_⟩
      · rw [hc, List.getElem_append_left hj]
      · rwa [List.getElem_append_left hj] at hx
  · have hu : Try.prog.underlying 29 = some (.slice (Try.prog.elem 29)) := by kernel_rfl
    have hsz : (sizeOf (Try.prog.elem 29)).run Try.prog u = .ok 1 u := by kernel_rfl
    rw [run_sliceAt_slice (h := hu), run_slice_hm (ht := hu) (h0 := by omega) (h2 := by omega) (h3 := by omega), hsz]
    simp [Result.andThen, sliced]
    intro _
    cases ao <;> simp [Addr.add]

theorem it_at {u : World} {n src dst : Nat} {x : Tn.Dg} {vb vr : Value} {sum : Bool} {t : TypeId} (hb : u.heap[n]? = some (.cells (itCells src dst x vb sum vr) t)) :
    u.cell? ⟨n, 0, none⟩ = some (.int .u32 (src : Int)) ∧ u.cell? ⟨n, 1, none⟩ = some (.int .u32 (dst : Int)) ∧ u.cell? ⟨n, 4, none⟩ = some vb ∧ u.cell? ⟨n, 5, none⟩ = some (.bool sum) ∧ u.cell? ⟨n, 6, none⟩ = some vr :=
  ⟨by rw [cell_of_row _ _ _ _ _ _ hb]; rfl, by rw [cell_of_row _ _ _ _ _ _ hb]; rfl, by rw [cell_of_row _ _ _ _ _ _ hb]; rfl, by rw [cell_of_row _ _ _ _ _ _ hb]; rfl, by rw [cell_of_row _ _ _ _ _ _ hb]; rfl⟩

theorem it_load {u : World} {n src dst : Nat} {x : Tn.Dg} {vb vr : Value} {sum : Bool} {t : TypeId} (hb : u.heap[n]? = some (.cells (itCells src dst x vb sum vr) t)) :
    (Instr.loadAt 33 (.pointer (some ⟨n, 2, none⟩))).run Try.prog u = .ok (.agg (dgCells x vb)) u := by
  refine run_loadAt_mid u n 2 33 (dgCells x vb).toList (.struct _) (fun j v hv => ?_) Try.underlying33 rfl (by rw [show (Try.prog.info? 33).map (·.size) = some 3 from by kernel_rfl]; rfl)
  rw [cell_of_row _ _ _ _ _ _ hb]
  match j, hv with
  | 0, hv => exact hv
  | 1, hv => exact hv
  | 2, hv => exact hv

section
variable {P : Program} {o : Oper} {a : Act} {w : World}
theorem ex_len (x : Operand) (T : TypeId) (p : Option Addr) (n c : Nat) (ho : o.op = .call { callee := .builtin .len, args := #[x], argTypes := #[T] }) (hx : a.eval x = .slice p n c) (hu : P.underlying T = some (.slice (P.elem T))) : (execOp a.eval o).run P w = .ok (.value (.int .i64 (n : Int))) w := by
  unfold execOp
  simp [ho, resolve, invoke, builtin, hx, run_len_slice (h := hu), Result.andThen]
  rfl
theorem ex_extract (x : Operand) (k : Nat) (vs : Array Value) (v : Value) (ho : o.op = .extract x k) (hx : a.eval x = .tuple vs) (hv : vs[k]? = some v) : (execOp a.eval o).run P w = .ok (.value v) w := by
  unfold execOp
  simp [ho, hx, Instr.extract, hv]
theorem ex_alloc {w' : World} (T : TypeId) (v : Value) (ho : o.op = .alloc T) (hr : (Instr.alloc T true (.tuple #[])).run P w = .ok v w') : (execOp a.eval o).run P w = .ok (.value v) w' := by
  unfold execOp
  simp only [ho, Sem.run_bind, hr, Result.andThen_ok, Sem.run_pure]
end

theorem alloc_dg (u : World) : (Instr.alloc 33 true (.tuple #[])).run Try.prog u = .ok (.pointer (some ⟨u.heap.size, 0, none⟩)) (u.alloc (.cells zeroD 33)) := by kernel_rfl
theorem field_it0 (b : Nat) (u : World) : (Instr.fieldAt 65 (.pointer (some ⟨b, 0, none⟩)) 0).run Try.prog u = .ok (.pointer (some ⟨b, 0, none⟩)) u := by kernel_rfl
theorem field_it1 (b : Nat) (u : World) : (Instr.fieldAt 65 (.pointer (some ⟨b, 0, none⟩)) 1).run Try.prog u = .ok (.pointer (some ⟨b, 1, none⟩)) u := by kernel_rfl
theorem field_it4 (b : Nat) (u : World) : (Instr.fieldAt 65 (.pointer (some ⟨b, 0, none⟩)) 4).run Try.prog u = .ok (.pointer (some ⟨b, 6, none⟩)) u := by kernel_rfl
theorem load_ad {u : World} {p : Addr} {x : Int} (h : u.cell? p = some (.int .u32 x)) : (Instr.loadAt 23 (.pointer (some p))).run Try.prog u = .ok (.int .u32 x) u := by
  simp [Instr.loadAt, go_sem, h]

/-- No cell holds a byte. -/
def NoB (C : Array Value) : Prop := ∀ (j : Nat) (v : Value), C[j]? = some v → ∀ x : Int, v ≠ Value.int .u8 x

theorem noB_dg (D : Tn.Dg) (a : Option Addr) (n c : Nat) : NoB (dgCells D (.slice a n c)) := fun j v hv x e => by
  subst e
  match j, hv with
  | 0, hv => simp [dgCells] at hv
  | 1, hv => simp [dgCells] at hv
  | 2, hv => simp [dgCells] at hv
  | j + 3, hv => simp [dgCells] at hv

theorem noB_zero : NoB zeroD := noB_dg Tn.none0 none 0 0

/-- A block without bytes that is written leaves lists of bytes as they are. -/
theorem SeesB.butZ {w w' : World} {v : Value} {L : List Nat} {q : Nat} {C : Array Value} {T : TypeId} (h : SeesB w v L) (hq : w.heap[q]? = some (.cells C T (0, 0))) (hC : NoB C) (hu : But q w w') : SeesB w' v L := by
  obtain ⟨ao, cap, hv, h1, h2, h3⟩ := h
  refine ⟨ao, cap, hv, h1, h2, fun j hj => ?_⟩
  obtain ⟨g, off, ha, hg, hc, hb⟩ := h3 j hj
  have hne : g ≠ q := fun e => by
    subst e
    rw [cell_of_row _ _ _ _ _ _ hq] at hc
    exact hC _ _ hc _ rfl
  refine ⟨g, off, ha, Nat.lt_of_lt_of_le hg hu.size, ?_, hb⟩
  rw [← hc]
  have hblk := hu.block g hg hne
  obtain ⟨o, ho⟩ : ∃ o, w.heap[g]? = some o := ⟨_, Array.getElem?_eq_getElem hg⟩
  simp only [World.cell?, hblk]

/-- What the operations of a drawn statement give that reads a datagram. -/
def FD (l : List Value) (D : Tn.Dg) (E : Int) (base : Nat) : Nat → (Nat → Value) → World → Prop
  | 11, vs, w => ∃ a n c, vs 11 = .tuple #[.agg (dgCells D (.slice a n c)), .int .i64 E] ∧ SeesB w (.slice a n c) D.B
  | 12, vs, w => ∃ a n c, vs 12 = .tuple #[.agg (dgCells D (.slice a n c)), .int .i64 E] ∧ SeesB w (.slice a n c) D.B
  | 13, vs, w => ∃ a n c, vs 13 = .agg (dgCells D (.slice a n c)) ∧ SeesB w (.slice a n c) D.B
  | 14, vs, _ => vs 14 = .int .i64 E
  | 15, vs, w => ∃ q C, vs 15 = .pointer (some ⟨q, 0, none⟩) ∧ base ≤ q ∧ w.heap[q]? = some (.cells C 33 (0, 0)) ∧ C.size = 3 ∧ NoB C
  | 16, vs, w => ∃ q a n c, vs 15 = .pointer (some ⟨q, 0, none⟩) ∧ base ≤ q ∧ w.heap[q]? = some (.cells (dgCells D (.slice a n c)) 33 (0, 0)) ∧ SeesB w (.slice a n c) D.B
  | 17, vs, _ => vs 17 = .int .i64 E
  | i, vs, _ => l[i]? = some (vs i)

def RD (j : Nat) (w w' : World) : Prop := if j = 16 then ∃ q C C', w.heap[q]? = some (.cells C 33 (0, 0)) ∧ NoB C ∧ C'.size = 3 ∧ NoB C' ∧ w'.heap[q]? = some (.cells C' 33 (0, 0)) ∧ But q w w' else Below w.heap.size w w'

theorem RD.sees {j : Nat} {w w' : World} {v : Value} {L : List Nat} (h : RD j w w') (hs : SeesB w v L) : SeesB w' v L := by
  unfold RD at h
  split at h
  · obtain ⟨q, C, C', h1, h2, _, _, _, h3⟩ := h
    exact hs.butZ h1 h2 h3
  · exact hs.below h

theorem FD.keeps (l : List Value) (D : Tn.Dg) (E : Int) (base : Nat) (ops : List Oper) (h16 : ∀ o, ops[16]? = some o → ∃ e ∈ o.after, Region.binds .any e = true ∧ e.on = 15) (I : World → Prop) :
    ∀ i j o vs v w w', i ≠ j → ops[i]? = some o → (∀ e ∈ o.after, Region.binds .any e = true → e.on ≠ j) → FD l D E base i vs w → I w → RD j w w' → FD l D E base i (upd vs j v) w' := fun i j o vs v w w' hij ho hne h _ hr => by
  unfold FD at h ⊢
  split at h
  · obtain ⟨a, n, c, e, hs⟩ := h; exact ⟨a, n, c, by rw [upd_ne v hij]; exact e, hr.sees hs⟩
  · obtain ⟨a, n, c, e, hs⟩ := h; exact ⟨a, n, c, by rw [upd_ne v hij]; exact e, hr.sees hs⟩
  · obtain ⟨a, n, c, e, hs⟩ := h; exact ⟨a, n, c, by rw [upd_ne v hij]; exact e, hr.sees hs⟩
  · show upd vs j v 14 = _
    rw [upd_ne v hij]; exact h
  · obtain ⟨q, C, e, hq, hrow, hC, hN⟩ := h
    unfold RD at hr
    split at hr
    · obtain ⟨q', C1, C', h1, _, h3, h4, h5, h6⟩ := hr
      by_cases hqq : q = q'
      · subst hqq
        exact ⟨q, C', by rw [upd_ne v hij]; exact e, hq, h5, h3, h4⟩
      · exact ⟨q, C, by rw [upd_ne v hij]; exact e, hq, (h6.block q (Array.getElem?_eq_some_iff.1 hrow).1 hqq).trans hrow, hC, hN⟩
    · exact ⟨q, C, by rw [upd_ne v hij]; exact e, hq, (hr.block q (Array.getElem?_eq_some_iff.1 hrow).1).trans hrow, hC, hN⟩
  · obtain ⟨q, a, n, c, e, hq, hrow, hs⟩ := h
    obtain ⟨ed, hed, hb, hon⟩ := h16 o ho
    have h15 := hne ed hed hb
    rw [hon] at h15
    refine ⟨q, a, n, c, by rw [upd_ne v h15]; exact e, hq, ?_, hr.sees hs⟩
    unfold RD at hr
    rw [if_neg (Ne.symm hij)] at hr
    exact (hr.block q (Array.getElem?_eq_some_iff.1 hrow).1).trans hrow
  · show upd vs j v 17 = _
    rw [upd_ne v hij]; exact h
  · show l[i]? = some (upd vs j v i)
    rw [upd_ne v hij]; exact h

def dstD (i : Nat) : Option Tmp := [some 70, some 71, some 72, some 73, some 74, some 75, some 76, some 77, some 78, some 79, some 80, some 81, some 69, some 82, some 83, some 9, none, some 6].getD i none
theorem dl18 {s : Nat} (h : some s ∉ [some 70, some 71, some 72, some 73, some 74, some 75, some 76, some 77, some 78, some 79, some 80, some 81, some 69, some 82, some 83, some 9, none, some 6]) : ∀ j, j < 18 → dstD j ≠ some s := fun j hj e => h (by
  unfold dstD at e
  rw [← e, List.getD_eq_getElem?_getD, List.getElem?_eq_getElem (by exact hj)]
  exact List.getElem_mem _)

theorem wp_stillA {P : Program} {o : Oper} {a : Act} {W w : World} {Q : Exit → Act → World → Prop} {F : Nat → (Nat → Value) → World → Prop} {R : Nat → World → World → Prop} {vs : Nat → Value} {i : Nat} {d : Option Tmp} {v : Value} (hr : (execOp a.eval o).run P w = .ok (.value v) w) (ht : o.dst = d) (hv : F i (upd vs i v) w) (hW : Below W.heap.size W w) (hR : R i w w) :
    o.wp P a w (fun a' w' => ∃ v', a' = a.put d v' ∧ F i (upd vs i v') w' ∧ Below W.heap.size W w' ∧ R i w w') Q :=
  wp_val hr (by rw [ht]; exact ⟨v, rfl, hv, hW, hR⟩)

theorem RD.refl {j : Nat} (h : j ≠ 16) (w : World) : RD j w w := by unfold RD; rw [if_neg h]; exact Below.refl _ _
theorem RD.of {j : Nat} (h : j ≠ 16) {w w' : World} (hb : Below w.heap.size w w') : RD j w w' := by unfold RD; rw [if_neg h]; exact hb

theorem ex_assign {P : Program} {o : Oper} {a : Act} {w : World} (x : Operand) (v : Value) (ho : o.op = .assign x) (hx : a.eval x = v) : (execOp a.eval o).run P w = .ok (.value v) w := by
  unfold execOp
  simp only [ho, hx, Sem.run_pure]

theorem datagrams_any (src dst : Nat) (x : Tn.Dg) (vb : Value) (sum : Bool) (vr : Value) (R : List Nat) (w : World) (hs : src < 4294967296) (hd : dst < 4294967296) (hx : x.Ok) (hvb : SeesB w vb x.B) (hvr : SeesB w vr R) (hlb : x.B.length ≤ 140737488351232) (hlr : R.length ≤ 140737488351232) :
    Calls Try.prog 57 #[.agg (itCells src dst x vb sum vr)] w fun e w' => e = .returned (.bool true) ∧ Below w.heap.size w w' := by
  obtain ⟨w1, hw1⟩ : ∃ w1, w1 = w.alloc (.cells (itCells src dst x vb sum vr) 65) := ⟨_, rfl⟩
  have hs1 : w1.heap.size = w.heap.size + 1 := by rw [hw1]; simp
  have hb1 : Below w.heap.size w w1 := by rw [hw1]; exact (Below.refl _ _).alloc (Nat.le_refl _) _
  have hr1 : w1.heap[w.heap.size]? = some (.cells (itCells src dst x vb sum vr) 65 (0, 0)) := by rw [hw1]; exact heap_alloc_new w _
  have HVB := hid (hvb.below hb1)
  have HVR := hid (hvr.below hb1)
  have HBY := hid hvb.bytes
  have HBR := hid hvr.bytes
  obtain ⟨ab, nb, capb, rfl, HNB, hnb1, hnb2⟩ := hvb.shape
  obtain ⟨ar, nr, capr, rfl, HNR, hnr1, hnr2⟩ := hvr.shape
  unfold maxLen at hnb2 hnr2
  have HIT : Hid (∀ u, Below w1.heap.size w1 u → u.cell? ⟨w.heap.size, 0, none⟩ = some (.int .u32 (src : Int)) ∧ u.cell? ⟨w.heap.size, 1, none⟩ = some (.int .u32 (dst : Int)) ∧ u.cell? ⟨w.heap.size, 4, none⟩ = some (.slice ab nb capb) ∧ u.cell? ⟨w.heap.size, 5, none⟩ = some (.bool sum) ∧ u.cell? ⟨w.heap.size, 6, none⟩ = some (.slice ar nr capr)) := fun u hu => it_at ((hu.block _ (by omega)).trans hr1)
  have HLD : Hid (∀ u, Below w1.heap.size w1 u → (Instr.loadAt 33 (.pointer (some ⟨w.heap.size, 2, none⟩))).run Try.prog u = .ok (.agg (dgCells x (.slice ab nb capb))) u) := fun u hu => it_load ((hu.block _ (by omega)).trans hr1)
  have HRO := hid (roomy_any _ x.B w1 HVB.out hlb)
  have HW1 := hid hw1
  have HB1 := hid hb1
  have HX := hid hx
  have HLB := hid hlb
  have HLR := hid hlr
  have HS1 := hid hs1
  have hin : (Try.prog.info? 33).map (·.size) = some 3 := by kernel_rfl
  have HIN := hid hin
  obtain ⟨c0, c1, c4, c5, c6⟩ := HIT.out _ (Below.refl _ _)
  clear hw1 hb1 hr1 hs1 hvb hvr hin hx hlb hlr
  generalize itCells src dst x (.slice ab nb capb) sum (.slice ar nr capr) = it at *
  go_enter Try.func57, Try.ntmps57
  go_upto_region 1 with fail
  rw [← HW1.out]
  go_wp2_with fail
  refine HRO.out.mono ?_
  rintro _ w2 ⟨l2, rfl, ho2, hb2⟩
  have hbm : ∀ y ∈ x.B ++ mkN 70, y < 256 := fun y hy => (List.mem_append.1 hy).elim (HBY.out y) (mkN_bytes y)
  obtain ⟨ao, no, co, rfl, hsr, hsc, kcut⟩ := room_cut ho2 hbm
  rw [← HNB.out] at hsc kcut
  obtain ⟨pa, hpa⟩ : ∃ pa, pa = dgCells x (.slice ab nb capb) := ⟨_, rfl⟩
  have HL2 : Hid ((Instr.loadAt 33 (.pointer (some ⟨w.heap.size, 2, none⟩))).run Try.prog w2 = .ok (.agg pa) w2) := by unfold Hid; rw [hpa]; exact HLD.out w2 hb2
  obtain ⟨q, hq⟩ : ∃ q, q = w2.heap.size := ⟨_, rfl⟩
  obtain ⟨w3, hw3⟩ : ∃ w3, w3 = (w2.alloc (.cells zeroD 33)).setCells q 0 pa.toList := ⟨_, rfl⟩
  have hps : pa.size = 3 := by rw [hpa]; rfl
  have HIP : Hid ((Try.prog.info? 33).map (·.size) = some pa.size) := by unfold Hid; rw [hps]; exact HIN.out
  have hrq : (w2.alloc (.cells zeroD 33)).heap[q]? = some (.cells zeroD 33 (0, 0)) := by rw [hq]; exact heap_alloc_new w2 _
  have HTP : Hid ((w2.alloc (.cells zeroD 33)).there q 0 pa.size) := there_blk hrq (by rw [hps]; rfl)
  have HOP : Hid (pa.all (·.oneCell') = true) := by unfold Hid; rw [hpa]; simp [dgCells, Value.oneCell']
  have hr3 : w3.heap[q]? = some (.cells (dgCells x (.slice ab nb capb)) 33 (0, 0)) := by rw [hw3, ← hpa]; exact row_put hrq (by rw [hps]; rfl)
  have hb23 : Below w2.heap.size w2 w3 := by rw [hw3]; exact below_setCells' (by omega) _ _ _ ((Below.refl _ _).alloc (Nat.le_refl _) _)
  obtain ⟨w4, hw4⟩ : ∃ w4, w4 = w3.setCell ⟨q, 2, none⟩ (.slice ao nb no) := ⟨_, rfl⟩
  have hr4 : w4.heap[q]? = some (.cells (dgCells x (.slice ao nb no)) 33 (0, 0)) := by rw [hw4]; exact heap_setCell_row hr3 _
  have hb24 : Below w2.heap.size w2 w4 := by rw [hw4]; exact hb23.setCell (p := ⟨q, 2, none⟩) (by show w2.heap.size ≤ q; omega) _
  have hb14 : Below w1.heap.size w1 w4 := hb2.trans (hb24.mono hb2.size)
  obtain ⟨_, _, f2⟩ := dg_at hr3
  have z2 : w3.frozen? ⟨q, 2, none⟩ = false := frozen_of_row _ _ _ _ _ hr3
  obtain ⟨a0, a1, a4, a5, a6⟩ := HIT.out w3 (hb2.trans (hb23.mono hb2.size))
  obtain ⟨d0, d1, d4, d5, d6⟩ := HIT.out w4 hb14
  have hsv4 := hsc.below hb24
  have hsr4 := hsr.below hb24
  have HL4 := hid (load_rowAt (T := 33) hr4 Try.underlying33 rfl (by exact HIN.out))
  have HBU := hid (buildU_any x (.slice ao nb no) src dst sum w4 HX.out hsv4 hs hd)
  have HB14 := hid hb14
  have HSR4 := hid hsr4
  have HW3 : Hid (w3 = (w2.alloc (.cells #[.int .u16 0, .int .u16 0, .slice none 0 0] 33)).setCells q 0 pa.toList) := hw3
  have HW4 := hid hw4
  have HQ := hid hq
  have hno : nb ≤ no := by obtain ⟨_, _, hv, h1, _⟩ := hsc; simp at hv; omega
  unfold zeroD at HTP
  obtain ⟨pb, hpb⟩ : ∃ pb, pb = dgCells x (.slice ao nb no) := ⟨_, rfl⟩
  rw [← hpb] at HL4 HBU
  have HPA := hid hpa
  clear hpa hpb hw3 hw4 hq hps hrq hr3 hr4 hb23 hb24 hb14 hsv4 hsr4 ho2 hb2 hsr hsc HRO hbm
  go_upto_region 3 with (first
    | (refine wpList_ld 33 ⟨w.heap.size, 2, none⟩ _ rfl rfl HL2.out rfl ?_)
    | (rw [← HQ.out]; refine wpList_store_mid rfl 33 (.tmp 4) (.tmp 16) rfl q 0 pa rfl rfl HTP.out HIP.out HOP.out ?_; rw [← HW3.out])
    | fail)
  simp only [Act.put]
  go_upto_region 4 with fail
  rw [← HW4.out]
  go_wp2_with (first
    | (refine wpList_ld 33 ⟨q, 0, none⟩ _ rfl rfl HL4.out rfl ?_)
    | fail)
  refine HBU.out.mono ?_
  rintro _ w5 ⟨s5, n5, t5, rfl, hs5, _, hb5⟩
  have HB15 := hid (HB14.out.trans (hb5.mono HB14.out.size))
  have HS5 := hid hs5
  have HSR5 := hid (HSR4.out.below hb5)
  have HBR5 := hid (buildUR_any x (.slice ab nb capb) src dst sum w5 HX.out (HVB.out.below HB15.out) hs hd)
  rw [← HPA.out] at HBR5
  have HL5 : Hid ((Instr.loadAt 33 (.pointer (some ⟨w.heap.size, 2, none⟩))).run Try.prog w5 = .ok (.agg pa) w5) := by unfold Hid; rw [HPA.out]; exact HLD.out w5 HB15.out
  have HKP : Hid (∀ u, Below w5.heap.size w5 u → Calls Try.prog 23 #[.slice ao no co, .slice ab nb capb] u fun e w' => e = .returned (.bool true) ∧ Below u.heap.size u w') := fun u hu => kept_any _ _ x.B u (HSR5.out.below hu) (HVB.out.below (HB15.out.trans (hu.mono HB15.out.size))) HLB.out
  obtain ⟨e0, e1, e4, e5, e6⟩ := HIT.out w5 HB15.out
  clear hs5 hb5 HBU HB14 HSR4 HL4 d0 d1 d4 d5 d6 a0 a1 a4 a5 a6 f2 z2 c0 c1 c4 c5 c6 HL2 HTP HIP HOP kcut
  generalize Tn.buE x = E at *
  generalize Tn.buL src dst x sum = BL at *
  go_wp2_with (first
    | (refine wpList_ld 33 ⟨w.heap.size, 2, none⟩ _ rfl rfl HL5.out rfl ?_)
    | fail)
  refine HBR5.out.mono ?_
  rintro _ w6 ⟨v6, rfl, ho6, hb6⟩
  have hs6 := ho6.sees HS5.out.bytes
  obtain ⟨s6, n6, t6, rfl, _, _, _⟩ := hs6.shape
  have HSA := hid (same_self _ _ _ w6 (HS5.out.below hb6) hs6)
  have HB56 := hid hb6
  clear ho6 hs6 hb6 HBR5 HL5
  go_wp2_with fail
  refine HSA.out.mono ?_
  rintro _ w7 ⟨rfl, hb7⟩
  have HB57 := hid (HB56.out.trans (hb7.mono HB56.out.size))
  obtain ⟨g0, g1, g4, g5, g6⟩ := HIT.out w7 (HB15.out.trans (HB57.out.mono HB15.out.size))
  have X7 := hid (HKP.out w7 HB57.out)
  clear hb7 HSA HB56 e0 e1 e4 e5 e6 HKP
  go_wp2_with fail
  refine X7.out.mono ?_
  rintro _ w8 ⟨rfl, hb8⟩
  have HB58 := hid (HB57.out.trans (hb8.mono HB57.out.size))
  have HB18 := hid (HB15.out.trans (HB58.out.mono HB15.out.size))
  obtain ⟨h0, h1, h4, h5, h6⟩ := HIT.out w8 HB18.out
  have HRR := hid (roomy_any _ R w8 (HVR.out.below HB18.out) HLR.out)
  clear hb8 X7 g0 g1 g4 g5 g6 HB57 HB58 HS5 HSR5 HB15
  go_wp2_with fail
  refine HRR.out.mono ?_
  rintro _ w9 ⟨l9, rfl, ho9, hb9⟩
  have hbm : ∀ y ∈ R ++ mkN 70, y < 256 := fun y hy => (List.mem_append.1 hy).elim (HBR.out y) (mkN_bytes y)
  obtain ⟨ap, np, cp, rfl, hsr, hsc, kcut⟩ := room_cut ho9 hbm
  rw [← HNR.out] at hsc kcut
  have HB19 := hid (HB18.out.trans (hb9.mono HB18.out.size))
  have HSR9 := hid hsr
  have HSC9 := hid hsc
  have HPU : Hid (∀ u, Below w9.heap.size w9 u → Calls Try.prog 16 #[.int .u32 (src : Int), .int .u32 (dst : Int), .slice ap nr np] u fun e w' => ∃ a n c, e = .returned (.tuple #[.agg (dgCells (Tn.puD src dst R) (.slice a n c)), .int .i64 (Tn.puE src dst R)]) ∧ SeesB w' (.slice a n c) (Tn.puD src dst R).B ∧ (∀ b, a = some b → u.heap.size ≤ b.block) ∧ Below u.heap.size u w') := fun u hu => parseU_any _ R src dst u (HSC9.out.below hu) hs hd
  have HPR : Hid (∀ u, Below w9.heap.size w9 u → Calls Try.prog 53 #[.int .u32 (src : Int), .int .u32 (dst : Int), .slice ar nr capr] u fun e w' => ∃ a n c, e = .returned (.tuple #[.agg (dgCells (Tn.puD src dst R) (.slice a n c)), .int .i64 (Tn.puE src dst R)]) ∧ SeesB w' (.slice a n c) (Tn.puD src dst R).B ∧ (∀ b, a = some b → u.heap.size ≤ b.block) ∧ Below u.heap.size u w') := fun u hu => parseUR_any _ R src dst u (HVR.out.below (HB19.out.trans (hu.mono HB19.out.size))) hs hd
  have HKP : Hid (∀ u, Below w9.heap.size w9 u → Calls Try.prog 23 #[.slice ap np cp, .slice ar nr capr] u fun e w' => e = .returned (.bool true) ∧ Below u.heap.size u w') := fun u hu => kept_any _ _ R u (HSR9.out.below hu) (HVR.out.below (HB19.out.trans (hu.mono HB19.out.size))) HLR.out
  generalize Tn.puE src dst R = PE at *
  obtain ⟨D, hD⟩ : ∃ D, D = Tn.puD src dst R := ⟨_, rfl⟩
  rw [← hD] at HPU HPR
  clear hD ho9 hb9 hbm hsr hsc HRR h0 h1 h4 h5 h6
  obtain ⟨h0, h1, h4, h5, h6⟩ := HIT.out w9 HB19.out
  have HLT : Hid (w.heap.size < w9.heap.size) := by have := HB19.out.size; have := HS1.out; unfold Hid; omega
  go_upto_region 9 with fail
  go_cut [6, 9] from 11 (fun e p wx => e = .int .i64 PE ∧ ∃ q a n c, p = .pointer (some ⟨q, 0, none⟩) ∧ Hid (wx.heap[q]? = some (.cells (dgCells D (.slice a n c)) 33 (0, 0)) ∧ SeesB wx (.slice a n c) D.B ∧ Below w9.heap.size w9 wx ∧ w9.heap.size ≤ q))
  case first =>
    refine wp_region_all' 18 dstD (FD [.pointer (some ⟨w.heap.size, 0, none⟩), .int .u32 (src : Int), .pointer (some ⟨w.heap.size, 1, none⟩), .int .u32 (dst : Int), .slice ap np cp, .pointer (some ⟨w.heap.size, 6, none⟩), .slice ar nr capr, .int .i64 (nr : Int), .slice ap np cp, .int .i64 (np : Int), .slice ap nr np] D PE w9.heap.size) (fun u => Below w9.heap.size w9 u) RD (by kernel_rfl) (by kernel_rfl) ⟨rfl, rfl, rfl, Nat.le_refl _, fun _ _ => rfl⟩ (FD.keeps _ _ _ _ _ (fun o ho => by cases ho; exact ⟨⟨15, .data⟩, by simp, rfl, rfl⟩) _) ?_ ?_
    · simp only [stepsAll]
      refine ⟨?_, ?_, ?_, ?_, ?_, ?_, ?_, ?_, ?_, ?_, ?_, ?_, ?_, ?_, ?_, ?_, ?_, ?_, trivial⟩
      · intro a u vs hb hold hdep
        exact wp_stillA (ex_field _ ⟨w.heap.size, 0, none⟩ (.tmp 1) 0 _ rfl (hold 1 (dl18 (by decide))) (field_it0 _ u)) rfl (congrArg some (upd_eq _ _ _).symm) hb (RD.refl (by decide) _)
      · intro a u vs hb hold hdep
        have e0 : a.eval (.tmp 70) = .pointer (some ⟨w.heap.size, 0, none⟩) := by have h0 := hdep ⟨0, .data⟩ (by simp) rfl; exact (h0.2 70 rfl).trans (Option.some.inj h0.1).symm
        exact wp_stillA (ex_load _ ⟨w.heap.size, 0, none⟩ (.tmp 70) _ rfl e0 (load_ad ((hb.cell (p := ⟨w.heap.size, 0, none⟩) HLT.out).trans h0))) rfl (congrArg some (upd_eq _ _ _).symm) hb (RD.refl (by decide) _)
      · intro a u vs hb hold hdep
        exact wp_stillA (ex_field _ ⟨w.heap.size, 0, none⟩ (.tmp 1) 1 _ rfl (hold 1 (dl18 (by decide))) (field_it1 _ u)) rfl (congrArg some (upd_eq _ _ _).symm) hb (RD.refl (by decide) _)
      · intro a u vs hb hold hdep
        have e0 : a.eval (.tmp 72) = .pointer (some ⟨w.heap.size, 1, none⟩) := by have h0 := hdep ⟨2, .data⟩ (by simp) rfl; exact (h0.2 72 rfl).trans (Option.some.inj h0.1).symm
        exact wp_stillA (ex_load _ ⟨w.heap.size, 1, none⟩ (.tmp 72) _ rfl e0 (load_ad ((hb.cell (p := ⟨w.heap.size, 1, none⟩) HLT.out).trans h1))) rfl (congrArg some (upd_eq _ _ _).symm) hb (RD.refl (by decide) _)
      · intro a u vs hb hold hdep
        exact wp_stillA (ex_move (.tmp 3) _ rfl (hold 3 (dl18 (by decide)))) rfl (congrArg some (upd_eq _ _ _).symm) hb (RD.refl (by decide) _)
      · intro a u vs hb hold hdep
        exact wp_stillA (ex_field _ ⟨w.heap.size, 0, none⟩ (.tmp 1) 4 _ rfl (hold 1 (dl18 (by decide))) (field_it4 _ u)) rfl (congrArg some (upd_eq _ _ _).symm) hb (RD.refl (by decide) _)
      · intro a u vs hb hold hdep
        have e0 : a.eval (.tmp 75) = .pointer (some ⟨w.heap.size, 6, none⟩) := by have h0 := hdep ⟨5, .data⟩ (by simp) rfl; exact (h0.2 75 rfl).trans (Option.some.inj h0.1).symm
        exact wp_stillA (ex_load _ ⟨w.heap.size, 6, none⟩ (.tmp 75) _ rfl e0 (load_sl ((hb.cell (p := ⟨w.heap.size, 6, none⟩) HLT.out).trans h6))) rfl (congrArg some (upd_eq _ _ _).symm) hb (RD.refl (by decide) _)
      · intro a u vs hb hold hdep
        have e0 : a.eval (.tmp 76) = .slice ar nr capr := by have h0 := hdep ⟨6, .data⟩ (by simp) rfl; exact (h0.2 76 rfl).trans (Option.some.inj h0.1).symm
        exact wp_stillA (ex_len (.tmp 76) _ _ _ _ rfl e0 (by kernel_rfl)) rfl (congrArg some (upd_eq _ _ _).symm) hb (RD.refl (by decide) _)
      · intro a u vs hb hold hdep
        exact wp_stillA (ex_move (.tmp 3) _ rfl (hold 3 (dl18 (by decide)))) rfl (congrArg some (upd_eq _ _ _).symm) hb (RD.refl (by decide) _)
      · intro a u vs hb hold hdep
        have e0 : a.eval (.tmp 78) = .slice ap np cp := by have h0 := hdep ⟨8, .data⟩ (by simp) rfl; exact (h0.2 78 rfl).trans (Option.some.inj h0.1).symm
        exact wp_stillA (ex_len (.tmp 78) _ _ _ _ rfl e0 (by kernel_rfl)) rfl (congrArg some (upd_eq _ _ _).symm) hb (RD.refl (by decide) _)
      · intro a u vs hb hold hdep
        have e0 : a.eval (.tmp 74) = .slice ap np cp := by have h0 := hdep ⟨4, .data⟩ (by simp) rfl; exact (h0.2 74 rfl).trans (Option.some.inj h0.1).symm
        have e1 : a.eval (.tmp 77) = .int .i64 (nr : Int) := by have h0 := hdep ⟨7, .data⟩ (by simp) rfl; exact (h0.2 77 rfl).trans (Option.some.inj h0.1).symm
        have e2 : a.eval (.tmp 79) = .int .i64 (np : Int) := by have h0 := hdep ⟨9, .data⟩ (by simp) rfl; exact (h0.2 79 rfl).trans (Option.some.inj h0.1).symm
        exact wp_stillA (ex_slice _ (.tmp 74) _ _ _ _ _ none (some (.int .i64 (nr : Int))) (some (.int .i64 (np : Int))) rfl e0 rfl (by show some (a.eval (.tmp 77)) = _; rw [e1]) (by show some (a.eval (.tmp 79)) = _; rw [e2]) (kcut u)) rfl (congrArg some (upd_eq _ _ _).symm) hb (RD.refl (by decide) _)
      · intro a u vs hb hold hdep
        have e0 : a.eval (.tmp 71) = .int .u32 (src : Int) := by have h0 := hdep ⟨1, .data⟩ (by simp) rfl; exact (h0.2 71 rfl).trans (Option.some.inj h0.1).symm
        have e1 : a.eval (.tmp 73) = .int .u32 (dst : Int) := by have h0 := hdep ⟨3, .data⟩ (by simp) rfl; exact (h0.2 73 rfl).trans (Option.some.inj h0.1).symm
        have e2 : a.eval (.tmp 80) = .slice ap nr np := by have h0 := hdep ⟨10, .data⟩ (by simp) rfl; exact (h0.2 80 rfl).trans (Option.some.inj h0.1).symm
        refine wp_call 16 _ _ rfl (enters_of Try.func16 (by kernel_rfl) rfl) #[.int .u32 (src : Int), .int .u32 (dst : Int), .slice ap nr np] (by simp only [List.map_toArray, List.map_cons, List.map_nil, e0, e1, e2]) ?_
        refine (HPU.out u hb).mono ?_
        rintro _ u' ⟨a1, n1, c1, rfl, hs1, _, hb'⟩
        exact ⟨_, rfl, _, rfl, ⟨a1, n1, c1, upd_eq _ _ _, hs1⟩, hb.trans (hb'.mono hb.size), RD.of (by decide) hb'⟩
      · intro a u vs hb hold hdep
        obtain ⟨⟨a1, n1, c1, q2, hs1⟩, q1⟩ := hdep ⟨11, .data⟩ (by simp) rfl
        exact wp_stillA (ex_move (.tmp 81) _ rfl ((q1 81 rfl).trans q2)) rfl ⟨a1, n1, c1, upd_eq _ _ _, hs1⟩ hb (RD.refl (by decide) _)
      · intro a u vs hb hold hdep
        obtain ⟨⟨a1, n1, c1, q2, hs1⟩, q1⟩ := hdep ⟨12, .data⟩ (by simp) rfl
        exact wp_stillA (ex_extract (.tmp 69) 0 _ _ rfl ((q1 69 rfl).trans q2) rfl) rfl ⟨a1, n1, c1, upd_eq _ _ _, hs1⟩ hb (RD.refl (by decide) _)
      · intro a u vs hb hold hdep
        obtain ⟨⟨a1, n1, c1, q2, hs1⟩, q1⟩ := hdep ⟨12, .data⟩ (by simp) rfl
        exact wp_stillA (ex_extract (.tmp 69) 1 _ _ rfl ((q1 69 rfl).trans q2) rfl) rfl (upd_eq _ _ _) hb (RD.refl (by decide) _)
      · intro a u vs hb hold hdep
        have hbA : Below u.heap.size u (u.alloc (.cells zeroD 33)) := (Below.refl _ _).alloc (Nat.le_refl _) _
        exact wp_val (ex_alloc _ _ rfl (alloc_dg u)) ⟨_, rfl, ⟨u.heap.size, zeroD, upd_eq _ _ _, hb.size, heap_alloc_new u _, rfl, noB_zero⟩, hb.trans (hbA.mono hb.size), RD.of (by decide) hbA⟩
      · intro a u vs hb hold hdep
        obtain ⟨⟨q, C, p2, hq, hrow, hC, hN⟩, p1⟩ := hdep ⟨15, .data⟩ (by simp) rfl
        obtain ⟨⟨a1, n1, c1, q2, hs1⟩, q1⟩ := hdep ⟨13, .data⟩ (by simp) rfl
        have ep : a.eval (.tmp 9) = .pointer (some ⟨q, 0, none⟩) := (p1 9 rfl).trans p2
        have ev : a.eval (.tmp 82) = .agg (dgCells D (.slice a1 n1 c1)) := (q1 82 rfl).trans q2
        have hbut : But q u (u.setCells q 0 (dgCells D (.slice a1 n1 c1)).toList) := But.setsT _ _
        have hrow2 : (u.setCells q 0 (dgCells D (.slice a1 n1 c1)).toList).heap[q]? = some (.cells (dgCells D (.slice a1 n1 c1)) 33 (0, 0)) := row_put hrow (by rw [hC]; rfl)
        refine wp_store_mid 33 (.tmp 9) (.tmp 82) rfl q 0 _ ep ev (there_blk hrow (by rw [hC]; rfl)) HIN.out (by simp [dgCells, Value.oneCell']) ⟨.pointer (some ⟨q, 0, none⟩), rfl, ⟨q, a1, n1, c1, ?_, hq, hrow2, hs1.butZ hrow hN hbut⟩, below_setCells' hq _ _ _ hb, ?_⟩
        · rw [upd_ne _ (by decide)]; exact p2
        · unfold RD; rw [if_pos rfl]; exact ⟨q, C, _, hrow, hN, rfl, noB_dg _ _ _ _, hrow2, hbut⟩
      · intro a u vs hb hold hdep
        obtain ⟨q2, q1⟩ := hdep ⟨14, .data⟩ (by simp) rfl
        exact wp_stillA (ex_assign (.tmp 83) _ rfl ((q1 83 rfl).trans q2)) rfl (upd_eq _ _ _) hb (RD.refl (by decide) _)
    intro vs u hb hF
    obtain ⟨q2, a1, n1, c1, e15, hq2, hrow, hs1⟩ := hF 16 (by decide)
    have e17 : vs 17 = .int .i64 PE := hF 17 (by decide)
    have e16 : vs 15 = .pointer (some ⟨q2, 0, none⟩) := e15
    have HEND := hid (And.intro hrow (And.intro hs1 (And.intro hb hq2)))
    clear hrow hs1 hb hq2 hF e15
    generalize vs 0 = y0
    generalize vs 1 = y1
    generalize vs 2 = y2
    generalize vs 3 = y3
    generalize vs 4 = y4
    generalize vs 5 = y5
    generalize vs 6 = y6
    generalize vs 7 = y7
    generalize vs 8 = y8
    generalize vs 9 = y9
    generalize vs 10 = y10
    generalize vs 11 = y11
    generalize vs 12 = y12
    generalize vs 13 = y13
    generalize vs 14 = y14
    simp only [putsO, List.range, List.range.loop, List.foldr, if_true, dstD, List.getD_cons_zero, List.getD_cons_succ, Act.put, e16, e17, List.setIfInBounds_toArray, List.set_cons_succ, List.set_cons_zero]
    go_wp2_with fail
    go_meet
    case rel => exact ⟨rfl, q2, a1, n1, c1, rfl, HEND.out⟩
  case rest =>
  obtain ⟨rfl, q9, a9, n9, k9, rfl, HQ9⟩ := hcut
  obtain ⟨w10, hw10⟩ : ∃ w10, w10 = wc := ⟨_, rfl⟩
  rw [← hw10] at HQ9 ⊢
  obtain ⟨hr10, hs10, hb10, hq10⟩ := HQ9.out
  have HB910 := hid hb10
  have HB110 := hid (HB19.out.trans (hb10.mono HB19.out.size))
  obtain ⟨i0, i1, i4, i5, i6⟩ := HIT.out w10 HB110.out
  have X10 := hid (HPR.out w10 hb10)
  have HR10 := hid hr10
  have HS10 := hid hs10
  clear hw10 hr10 hs10 hb10 hq10 h0 h1 h4 h5 h6 HPU HPR HQ9 kcut
  go_wp2_with fail
  refine X10.out.mono ?_
  rintro _ w11 ⟨a11, n11, k11, rfl, hs11, _, hb11⟩
  obtain ⟨pc, hpc⟩ : ∃ pc, pc = dgCells D (.slice a11 n11 k11) := ⟨_, rfl⟩
  obtain ⟨p3, hp3⟩ : ∃ p3, p3 = w11.heap.size := ⟨_, rfl⟩
  obtain ⟨w12, hw12⟩ : ∃ w12, w12 = (w11.alloc (.cells zeroD 33)).setCells p3 0 pc.toList := ⟨_, rfl⟩
  have hps : pc.size = 3 := by rw [hpc]; rfl
  have HIP3 : Hid ((Try.prog.info? 33).map (·.size) = some pc.size) := by unfold Hid; rw [hps]; exact HIN.out
  have hrp : (w11.alloc (.cells zeroD 33)).heap[p3]? = some (.cells zeroD 33 (0, 0)) := by rw [hp3]; exact heap_alloc_new w11 _
  have HTP3 : Hid ((w11.alloc (.cells zeroD 33)).there p3 0 pc.size) := there_blk hrp (by rw [hps]; rfl)
  have HOP3 : Hid (pc.all (·.oneCell') = true) := by unfold Hid; rw [hpc]; simp [dgCells, Value.oneCell']
  have hr12 : w12.heap[p3]? = some (.cells (dgCells D (.slice a11 n11 k11)) 33 (0, 0)) := by rw [hw12, ← hpc]; exact row_put hrp (by rw [hps]; rfl)
  have hb1112 : Below w11.heap.size w11 w12 := by rw [hw12]; exact below_setCells' (by omega) _ _ _ ((Below.refl _ _).alloc (Nat.le_refl _) _)
  have hb1012 := hb11.trans (hb1112.mono hb11.size)
  have HB912 := hid (HB910.out.trans (hb1012.mono HB910.out.size))
  have HB112 := hid (HB19.out.trans (HB912.out.mono HB19.out.size))
  have hr12' : w12.heap[q9]? = some (.cells (dgCells D (.slice a9 n9 k9)) 33 (0, 0)) := (hb1012.block q9 (Array.getElem?_eq_some_iff.1 HR10.out).1).trans HR10.out
  obtain ⟨j0, j1, j2⟩ := dg_at hr12
  obtain ⟨l0, l1, l2⟩ := dg_at hr12'
  obtain ⟨i0, i1, i4, i5, i6⟩ := HIT.out w12 HB112.out
  have XS := hid (same_self _ _ _ w12 (HS10.out.below hb1012) (hs11.below hb1112))
  have HKP2 : Hid (∀ u, Below w12.heap.size w12 u → Calls Try.prog 23 #[.slice ap np cp, .slice ar nr capr] u fun e w' => e = .returned (.bool true) ∧ Below u.heap.size u w') := fun u hu => HKP.out u (HB912.out.trans (hu.mono HB912.out.size))
  have HC13 : Hid (∀ u, Below w12.heap.size w12 u → u.cell? ⟨w.heap.size, 6, none⟩ = some (.slice ar nr capr)) := fun u hu => (HIT.out u (HB112.out.trans (hu.mono HB112.out.size))).2.2.2.2
  have HW12 : Hid (w12 = (w11.alloc (.cells #[.int .u16 0, .int .u16 0, .slice none 0 0] 33)).setCells p3 0 pc.toList) := hw12
  have HP3 := hid hp3
  unfold zeroD at HTP3
  rw [← hpc]
  clear hpc hp3 hw12 hps hrp hr12 hr12' hb11 hb1112 hb1012 hs11 X10 HKP
  go_upto_region 11 with (first
    | (rw [← HP3.out]; refine wpList_store_mid rfl 33 (.tmp 10) (.tmp 92) rfl p3 0 pc rfl rfl HTP3.out HIP3.out HOP3.out ?_; rw [← HW12.out])
    | fail)
  go_wp2_with fail
  refine XS.out.mono ?_
  rintro _ w13 ⟨rfl, hb13⟩
  have X13 := hid (HKP2.out w13 hb13)
  have o6 := HC13.out w13 hb13
  have HB113 := hid (HB112.out.trans (hb13.mono HB112.out.size))
  clear hb13 XS i0 i1 i4 i5 i6 j0 j1 j2 l0 l1 l2
  go_wp2_with fail
  refine X13.out.mono ?_
  rintro _ w14 ⟨rfl, hb14⟩
  have HB114 := hid (HB113.out.trans (hb14.mono HB113.out.size))
  clear hb14 X13
  go_wp2_with fail
  go_ret
  exact ⟨rfl, HB1.out.trans (HB114.out.mono HB1.out.size)⟩
end Go.Proofs.Ytcelcnafcfefhab.N
