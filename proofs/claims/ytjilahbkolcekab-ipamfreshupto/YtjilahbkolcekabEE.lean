/-
  ipam: nextFree, Add, Del.
-/
import Derived.Test.YtjilahbkolcekabED
namespace Go.Proofs.Ytjilahbkolcekab
open Go.ChangeShapes Go.WideShapes Go.ChangeAt Go.RowKit Go.Maps Tri
set_option maxHeartbeats 2000000
set_option maxRecDepth 100000

theorem tk_byA (s : Ist) (p : Nat) : s.tk p = (s.byA (s.b + p)).isSome := by
  unfold Ist.tk
  cases hf : s.byA (s.b + p) with
  | none =>
    rw [Option.isSome_none, decide_eq_false_iff_not]
    intro hm
    obtain ⟨q, hq, e⟩ := List.mem_map.1 hm
    exact byA_none hf q hq e
  | some q =>
    have := byA_some hf
    rw [Option.isSome_some, decide_eq_true_eq, ← this.2]
    exact List.mem_map_of_mem this.1

theorem srch_step {z : Nat} {T : Nat → Bool} {n p : Nat} (h : T (nx z p) = true) : srch z T (n + 1) p = srch z T n (nx z p) := by
  conv => lhs; unfold srch
  rw [if_pos h]
theorem srch_stop {z : Nat} {T : Nat → Bool} {n p : Nat} (h : T (nx z p) = false) : srch z T (n + 1) p = some (nx z p) := by
  unfold srch
  rw [if_neg (by rw [h]; simp)]

theorem wpList_delete_run {P : Program} (w : World) {ops : Array Oper} {rest : List Oper} {o : Oper} {a : Act} {Q : Exit → Act → World → Prop} (hgd : o.guard = none) (m x : Operand) (t k : TypeId) (ho : o.op = .call { callee := .builtin .delete, args := #[m, x], argTypes := #[t, k] }) (vm vx : Value) (hm : a.eval m = vm) (hx : a.eval x = vx) {v : Value} {w' : World}
    (hr : (Builtin.delete_ #[t, k] o.type #[vm, vx]).run P w = .ok v w') (h : wpList P ops Q rest (a.put o.dst v) w') : wpList P ops Q (o :: rest) a w :=
  wpList_plain hgd fun _ hK => by
    unfold Oper.wp
    simp [execOp, ho, resolve, invoke, builtin, hm, hx, hr, Result.andThen]
    exact hK _ _ h
theorem wpList_len_run {P : Program} (w : World) {ops : Array Oper} {rest : List Oper} {o : Oper} {a : Act} {Q : Exit → Act → World → Prop} (hgd : o.guard = none) (m : Operand) (t : TypeId) (ho : o.op = .call { callee := .builtin .len, args := #[m], argTypes := #[t] }) (vm : Value) (hm : a.eval m = vm) {v : Value}
    (hr : (Builtin.len_ #[t] o.type #[vm]).run P w = .ok v w) (h : wpList P ops Q rest (a.put o.dst v) w) : wpList P ops Q (o :: rest) a w :=
  wpList_plain hgd fun _ hK => by
    unfold Oper.wp
    simp [execOp, ho, resolve, invoke, builtin, hm, hr, Result.andThen]
    exact hK _ _ h
theorem wpList_update_run {P : Program} (w : World) {ops : Array Oper} {rest : List Oper} {o : Oper} {a : Act} {Q : Exit → Act → World → Prop} (hgd : o.guard = none) (m x v : Operand) (t : TypeId) (ho : o.op = .mapUpdate t m x v) (vm vx vv : Value) (hm : a.eval m = vm) (hx : a.eval x = vx) (hv : a.eval v = vv) {w' : World}
    (hr : (Instr.mapUpdate t vm vx vv).run P w = .ok () w') (h : wpList P ops Q rest (a.put o.dst undef) w') : wpList P ops Q (o :: rest) a w :=
  wpList_plain hgd fun _ hK => by
    unfold Oper.wp
    simp [execOp, ho, hm, hx, hv, hr, Result.andThen]
    exact hK _ _ h

/-- What nextFree answers. -/
def NxF (s : Ist) (e : Ending) : Prop := (∃ r, s.fr = some r ∧ e = .returned (.tuple #[.int .u32 ((s.b + r : Nat) : Int), .bool true])) ∨ (s.fr = none ∧ e = .returned (.tuple #[.int .u32 0, .bool false]))

theorem nextFree_any (w : World) (pb bn ba : Nat) (s : Ist) (h : IpAt w pb bn ba s) :
    Calls Try.prog 41 #[.pointer (some ⟨pb, 0, none⟩)] w fun e w' => NxF s e ∧ Below w.heap.size w w' := by
  obtain ⟨-, -, c2, -, -, -⟩ := h.cells
  have HI := hid h
  have HZ : Hid (4 ≤ s.z) := h.ok.z4
  have HBE : Hid (s.b + s.z ≤ 4294967296) := h.ok.be
  have HST : Hid (1 ≤ s.l ∧ s.l + 2 ≤ s.z) := ⟨h.ok.l1, h.ok.l2⟩
  obtain ⟨a0, HA0⟩ : ∃ a0, Hid (a0 = s.b + s.l) := ⟨_, rfl⟩
  rw [← HA0.out] at c2
  clear h
  go_enter Try.func41, Try.ntmps41
  go_upto_region 3 with fail
  go_loopw [4, 11] (fun a i wr => ∃ (j p q : Nat), i = .int .i64 (j : Int) ∧ a = .int .u32 (q : Int) ∧ j ≤ 1025 ∧ Hid (q = s.b + p ∧ 1 ≤ p ∧ p + 2 ≤ s.z ∧ s.fr = srch s.z s.tk (1025 - j) p) ∧ Hid (Below w.heap.size w wr)) (fun _ i _ => 1025 - (intOf i).toNat)
  case atStart => exact ⟨0, s.l, a0, rfl, rfl, by omega, ⟨HA0.out, HST.out.1, HST.out.2, rfl⟩, Below.refl _ _⟩
  case round =>
    obtain ⟨j, p, q, rfl, rfl, hj, HP, HB⟩ := hrel
    by_cases hlt : j < 1025
    · have hlt' : (j : Int) < 1025 := by omega
      obtain ⟨q2, HQ2⟩ : ∃ q2, Hid (q2 = s.b + nx s.z p) := ⟨_, rfl⟩
      have HIR := hid (HI.out.below HB.out)
      have HIN := hid (nx_in (p := p) HZ.out HP.out.2.1)
      have HBH : Hid (Calls Try.prog 53 #[.pointer (some ⟨pb, 0, none⟩), .int .u32 (q : Int)] wr fun e w' => e = .returned (.int .u32 (q2 : Int)) ∧ w' = wr) := by
        rw [HP.out.1, HQ2.out]; exact behind_any wr pb bn ba s p HIR.out HP.out.2.1 HP.out.2.2.1
      obtain ⟨-, -, -, -, c4, -⟩ := HIR.out.cells
      have HL := hid (HIR.out.ma.look (x := q2) (by rw [HQ2.out]; have := HIN.out.2; have := HBE.out; omega))
      have HTK := hid (tk_byA s (nx s.z p))
      rw [← HQ2.out] at HTK
      cases hf : s.byA q2 with
      | none =>
        have HE : Hid (s.fr = some (nx s.z p)) := by
          unfold Hid; rw [HP.out.2.2.2, show 1025 - j = (1025 - j - 1) + 1 by omega]
          exact srch_stop (by rw [HTK.out, hf]; rfl)
        rw [hf] at HL
        simp only [Option.getD_none, Option.isSome_none] at HL
        unfold podV zPod at HL
        clear HTK hf HIR c2
        go_wp2_with fail
        refine HBH.out.mono ?_
        rintro _ _ ⟨rfl, ew⟩
        obtain rfl := ew.symm
        clear ew HBH
        go_wp2_with (refine wpList_lookup_run _ rfl _ _ _ rfl _ _ rfl rfl HL.out ?_)
        go_ret2
        refine ⟨.inl ⟨_, HE.out, ?_⟩, HB.out.trans ((Below.refl _ _).alloc HB.out.size _)⟩
        rw [← HQ2.out]; rfl
      | some pp =>
        have HE : Hid (s.fr = srch s.z s.tk (1025 - (j + 1)) (nx s.z p)) := by
          unfold Hid; rw [HP.out.2.2.2, show 1025 - j = (1025 - (j + 1)) + 1 by omega]
          exact srch_step (by rw [HTK.out, hf]; rfl)
        rw [hf] at HL
        simp only [Option.getD_some, Option.isSome_some] at HL
        unfold podV at HL
        clear HTK hf HIR c2
        go_wp2_with fail
        refine HBH.out.mono ?_
        rintro _ _ ⟨rfl, ew⟩
        obtain rfl := ew.symm
        clear ew HBH
        go_wp2_with (refine wpList_lookup_run _ rfl _ _ _ rfl _ _ rfl rfl HL.out ?_)
        go_roundw
        case rel => exact ⟨j + 1, nx s.z p, q2, by go_num, rfl, by omega, ⟨HQ2.out, by have := HIN.out.1; omega, HIN.out.2, HE.out⟩, HB.out.trans ((Below.refl _ _).alloc HB.out.size _)⟩
        case measure => simp [intOf]; omega
    · have hlt' : ¬ (j : Int) < 1025 := by omega
      have HE : Hid (s.fr = none) := by
        unfold Hid; rw [HP.out.2.2.2, show 1025 - j = 0 by omega]; rfl
      go_wp2_with fail
      go_ret2
      exact ⟨.inr ⟨HE.out, rfl⟩, HB.out⟩

/-- What Add answers, and what it leaves. -/
def Ist.addR (s : Ist) (n : ByteArray) : Nat × Int × Ist :=
  if nmB n = false then (0, 150, s) else if (s.byN n).isSome then (0, 5, s) else if 1024 ≤ s.S.length then (0, 4, s) else
  match s.fr with
  | none => (0, 4, s)
  | some r => (s.b + r, 0, s.add n r)

theorem nm_size {n : ByteArray} (h : nmB n = true) : n.size ≤ 63 := by
  unfold nmB at h
  rw [decide_eq_true_eq] at h
  exact h.2.1

theorem IpAt.add {w w1 w2 w3 : World} {pb bn ba : Nat} {s : Ist} {n : ByteArray} {r : Nat} (h : IpAt w pb bn ba s) (hn : s.byN n = none) (hl : s.S.length < 1024) (hm : nmB n = true) (hr : s.fr = some r)
    (h1 : w1 = w.setCell ⟨pb, 2, none⟩ (.int .u32 ((s.b + r : Nat) : Int)))
    (h2 : MapN w2 bn (fun y => if y = n then some (s.b + r) else (s.byN y).map Pod.ad) (s.S.length + 1)) (t2 : w1.mapTurned w2 bn)
    (h3 : MapA w3 ba (fun y => if y = s.b + r then some ⟨n, s.b + r⟩ else s.byA y) (s.S.length + 1)) (t3 : w2.mapTurned w3 ba) : IpAt w3 pb bn ba (s.add n r) ∧ Keeps (fpI pb bn ba) w w3 := by
  have k1 : Keeps (fun k => k = pb) w w1 := by rw [h1]; exact Keeps.set (S := fun k => k = pb) (Keeps.refl _ _) ⟨pb, 2, none⟩ rfl _
  have k2 := turned_keeps t2
  have k3 := turned_keeps t3
  have hlt := h.lt
  have s1 := k1.size
  have s2 := k2.size
  have hin := srch_in h.ok.z4 h.ok.l1 hr
  refine ⟨⟨?_, ?_, ?_, h.ne, h.ok.add hn hl (nm_size hm) hr⟩, ?_⟩
  · rw [k3.block pb (by omega) h.n2, k2.block pb (by omega) h.n1, h1, set_cells h.row]
    rfl
  · have h4 := h2.kept (k3.block bn (by omega) h.ne)
    refine h4.congr ?_ fun y => ?_
    · show _ = (s.S ++ [_]).length
      rw [List.length_append]; rfl
    · show _ = ((s.add n r).byN y).map Pod.ad
      rw [byN_add hn]
      split <;> rfl
  · refine h3.congr ?_ fun y => ?_
    · show _ = (s.S ++ [_]).length
      rw [List.length_append]; rfl
    · show _ = (s.add n r).byA y
      rw [byA_add hin.1]
  · exact ((k1.mono fun k _ e => .inl e).trans (k2.mono fun k _ e => .inr (.inl e))).trans (k3.mono fun k _ e => .inr (.inr e))

theorem add_any (w : World) (pb bn ba : Nat) (s : Ist) (n : ByteArray) (h : IpAt w pb bn ba s) (hn : n.size ≤ maxLen) :
    Calls Try.prog 17 #[.pointer (some ⟨pb, 0, none⟩), .string n] w fun e w' => e = .returned (.tuple #[.int .u32 ((s.addR n).1 : Int), .int .i64 (s.addR n).2.1]) ∧ IpAt w' pb bn ba (s.addR n).2.2 ∧ Keeps (fpI pb bn ba) w w' := by
  obtain ⟨-, -, -, c3, -, -⟩ := h.cells
  have HI := hid h
  have HNM := hid (isName_any n w hn)
  have HLK := hid (h.mn.look hn)
  have HLN := hid (h.mn.len)
  have HNF := hid (nextFree_any w pb bn ba s h)
  obtain ⟨A, HA⟩ : ∃ A, Hid (A = s.addR n) := ⟨_, rfl⟩
  rw [← HA.out]
  cases hm : nmB n with
  | false =>
    have HE : Hid (A = (0, 150, s)) := by unfold Hid; rw [HA.out]; unfold Ist.addR; rw [if_pos hm]
    rw [hm] at HNM
    clear h HLK HLN HNF HA
    go_enter Try.func17, Try.ntmps17
    go_wp2_with fail
    refine HNM.out.mono ?_
    rintro _ _ ⟨rfl, ew⟩
    obtain rfl := ew.symm
    clear ew HNM
    go_wp2_with fail
    go_ret2
    rw [HE.out]
    exact ⟨rfl, HI.out, Keeps.refl _ _⟩
  | true =>
    rw [hm] at HNM
    cases hf : s.byN n with
    | some p =>
      have HE : Hid (A = (0, 5, s)) := by unfold Hid; rw [HA.out]; unfold Ist.addR; rw [if_neg (by rw [hm]; simp), if_pos (by rw [hf]; rfl)]
      rw [hf] at HLK
      simp only [Option.map_some, Option.getD_some, Option.isSome_some] at HLK
      clear h HLN HNF HA
      go_enter Try.func17, Try.ntmps17
      go_wp2_with fail
      refine HNM.out.mono ?_
      rintro _ _ ⟨rfl, ew⟩
      obtain rfl := ew.symm
      clear ew HNM
      go_wp2_with (refine wpList_lookup_run _ rfl _ _ _ rfl _ _ rfl rfl HLK.out ?_)
      go_ret2
      rw [HE.out]
      exact ⟨rfl, HI.out, Keeps.refl _ _⟩
    | none =>
      rw [hf] at HLK
      simp only [Option.map_none, Option.getD_none, Option.isSome_none] at HLK
      obtain ⟨c, HC⟩ : ∃ c, Hid (c = s.S.length) := ⟨_, rfl⟩
      rw [← HC.out] at HLN
      by_cases hl : 1024 ≤ c
      · have HE : Hid (A = (0, 4, s)) := by unfold Hid; rw [HA.out]; unfold Ist.addR; rw [if_neg (by rw [hm]; simp), if_neg (by rw [hf]; simp), if_pos (by rw [← HC.out]; exact hl)]
        have hl' : (1024 : Int) ≤ (c : Int) := by omega
        clear h HNF HA hl
        go_enter Try.func17, Try.ntmps17
        go_wp2_with fail
        refine HNM.out.mono ?_
        rintro _ _ ⟨rfl, ew⟩
        obtain rfl := ew.symm
        clear ew HNM
        go_wp2_with (first | (refine wpList_lookup_run _ rfl _ _ _ rfl _ _ rfl rfl HLK.out ?_) | (at_len; refine wpList_len_run _ rfl _ _ rfl _ rfl (HLN.out _) ?_))
        go_ret2
        rw [HE.out]
        exact ⟨rfl, HI.out, Keeps.refl _ _⟩
      · have hl' : ¬ (1024 : Int) ≤ (c : Int) := by omega
        have HCL : Hid (s.S.length < 1024) := by unfold Hid; rw [← HC.out]; omega
        have HA1 : Hid (A = match s.fr with | none => (0, 4, s) | some r => (s.b + r, 0, s.add n r)) := by
          unfold Hid; rw [HA.out]; unfold Ist.addR; rw [if_neg (by rw [hm]; simp), if_neg (by rw [hf]; simp), if_neg (by rw [← HC.out]; exact hl)]
        have HMM := hid hm
        have HFF := hid hf
        clear h HA hl hm hf
        go_enter Try.func17, Try.ntmps17
        go_wp2_with fail
        refine HNM.out.mono ?_
        rintro _ _ ⟨rfl, ew⟩
        obtain rfl := ew.symm
        clear ew HNM
        go_upto_region 8 with (first | (refine wpList_lookup_run _ rfl _ _ _ rfl _ _ rfl rfl HLK.out ?_) | (at_len; refine wpList_len_run _ rfl _ _ rfl _ rfl (HLN.out _) ?_))
        go_wp2_with fail
        refine HNF.out.mono ?_
        rintro _ w1 ⟨hn1 | hn1, hb1⟩
        · obtain ⟨r, hr, rfl⟩ := hn1
          have HE : Hid (A = (s.b + r, 0, s.add n r)) := by unfold Hid; rw [HA1.out, hr]
          have HR := hid hr
          have HI1 := hid (HI.out.below hb1)
          have HB1 := hid hb1
          obtain ⟨q, HQ⟩ : ∃ q, Hid (q = s.b + r) := ⟨_, rfl⟩
          rw [← HQ.out]
          obtain ⟨w2, HW2⟩ : ∃ w2, Hid (w2 = w1.setCell ⟨pb, 2, none⟩ (.int .u32 (q : Int))) := ⟨_, rfl⟩
          have K12 : Hid (Keeps (fun k => k = pb) w1 w2) := by unfold Hid; rw [HW2.out]; exact Keeps.set (S := fun k => k = pb) (Keeps.refl _ _) ⟨pb, 2, none⟩ rfl _
          have R2 : Hid (w2.heap[pb]? = some (.cells (icells s.b (s.b + s.z - 1) q bn ba) 75 (0, 0))) := by unfold Hid; rw [HW2.out, set_cells HI1.out.row]; rfl
          have HMN := hid (HI1.out.mn.kept (K12.out.block bn HI1.out.lt.2.1 (Ne.symm HI1.out.n1)))
          have HMA := hid (HI1.out.ma.kept (K12.out.block ba HI1.out.lt.2.2 (Ne.symm HI1.out.n2)))
          have HQL : Hid (q < 4294967296) := by
            have h1 := srch_in HI1.out.ok.z4 HI1.out.ok.l1 hr
            have h2 := HI1.out.ok.be
            unfold Hid; rw [HQ.out]; omega
          obtain ⟨w3, hu3, hm3, ht3⟩ := HMN.out.store (by have := HCL.out; omega) hn q HQL.out
          have HU3 := hid hu3
          have HM3 := hid hm3
          have HT3 := hid ht3
          have HMA3 := hid (HMA.out.kept ((turned_keeps ht3).block ba (by have := HI1.out.lt; have := K12.out.size; omega) (Ne.symm HI1.out.ne)))
          have R3 : Hid (w3.heap[pb]? = some (.cells (icells s.b (s.b + s.z - 1) q bn ba) 75 (0, 0))) := ((turned_keeps ht3).block pb (by have := HI1.out.lt; have := K12.out.size; omega) HI1.out.n1).trans R2.out
          obtain ⟨w4, hu4, hm4, ht4⟩ := HMA3.out.store (by have := HCL.out; omega) HQL.out ⟨n, q⟩
          unfold podV at hu4
          simp only at hu4
          have HU4 := hid hu4
          have HM4 := hid hm4
          have HT4 := hid ht4
          have d2 : w1.frozen? ⟨pb, 2, none⟩ = false := HI1.out.cells.2.2.2.2.2
          have d3 : w2.cell? ⟨pb, 3, none⟩ = some (.map (some bn)) := by rw [cell_of_row _ _ _ _ _ _ R2.out]; rfl
          have d4 : w3.cell? ⟨pb, 4, none⟩ = some (.map (some ba)) := by rw [cell_of_row _ _ _ _ _ _ R3.out]; rfl
          have d5 : ∃ v, w1.cell? ⟨pb, 2, none⟩ = some v := ⟨_, HI1.out.cells.2.2.1⟩
          obtain ⟨v5, d5⟩ := d5
          clear hr hb1 hu3 hm3 ht3 hu4 hm4 ht4 HLK HLN HNF c3
          go_upto_region 12 with fail
          rw [← HW2.out]
          go_wp2_with (first | (refine wpList_update_run _ rfl _ _ _ _ rfl _ _ _ rfl rfl rfl HU3.out ?_) | (refine wpList_update_run _ rfl _ _ _ _ rfl _ _ _ rfl rfl rfl HU4.out ?_))
          go_ret2
          rw [HE.out, ← HQ.out]
          have hfin := HI1.out.add (n := n) HFF.out HCL.out HMM.out HR.out (w1 := w2) (w2 := w3) (w3 := w4) (by rw [← HQ.out]; exact HW2.out) ?_ HT3.out ?_ HT4.out
          · exact ⟨rfl, hfin.1, (Keeps.of HB1.out).trans hfin.2⟩
          · have := HM3.out
            rw [HFF.out, HQ.out] at this
            exact this
          · have hna : s.byA q = none := by
              have h1 := srch_in HI1.out.ok.z4 HI1.out.ok.l1 HR.out
              have h2 := h1.1
              rw [tk_byA, ← HQ.out] at h2
              simpa using h2
            have := HM4.out
            rw [hna, HQ.out] at this
            exact this
        · obtain ⟨hr, rfl⟩ := hn1
          have HE : Hid (A = (0, 4, s)) := by unfold Hid; rw [HA1.out, hr]
          have HI1 := hid (HI.out.below hb1)
          have HB1 := hid hb1
          clear hr hb1
          go_wp2_with fail
          go_ret2
          rw [HE.out]
          exact ⟨rfl, HI1.out, Keeps.of HB1.out⟩
end Go.Proofs.Ytjilahbkolcekab
