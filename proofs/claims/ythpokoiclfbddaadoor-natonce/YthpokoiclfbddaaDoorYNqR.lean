import Derived.Test.YthpokoiclfbddaaDoorYNqQ
import Derived.Test.YthpokoiclfbddaaDoorYOWA
namespace Go.Proofs.YthpokoiclfbddaaDoor.Nq
open Go.Proofs.YthpokoiclfbddaaDoor Go.ChangeShapes Go.WideShapes Go.ChangeAt Go.RowKit Fl
open Go.Proofs.YthpokoiclfbddaaDoor.N hiding But But.set But.of_below But.refl But.trans But.below But.drew wpList_ld
set_option maxHeartbeats 2000000
set_option maxRecDepth 100000

structure Po where
  pr : Nat
  n : Nat
deriving DecidableEq
def Po.cells (x : Po) : Array Value := #[.int .u8 (x.pr : Int), .int .u16 (x.n : Int)]
def Po.Ok (x : Po) : Prop := x.pr < 256 ∧ x.n < 65536
theorem Po.one (x : Po) : x.cells.all (·.oneCell') = true := by simp [Po.cells, Value.oneCell']
theorem isPo : ∃ d, Tryd.prog.underlying 43 = some d ∧ d.isRow = true := ⟨_, Tryd.underlying43, rfl⟩
@[reducible] def kQ : Ow.Rk Po where
  eT := 43
  sT := 29
  z := 2
  bs := 4
  cs := Po.cells
  zero := .agg #[.int .u8 0, .int .u16 0]
  len x := rfl
  one x := x.one
  zp := by decide
  bp := by decide
  us := by kernel_rfl
  el := by kernel_rfl
  info := by kernel_rfl
  zs := rfl
  ue := isPo

/-- The ports of a protocol. -/
def tOf (L : List Po) (k : Nat) : List Nat := (L.filter fun x => decide (x.pr = k)).map Po.n
theorem tOf_nil : tOf [] = fun _ => [] := rfl
theorem tOf_mem {L : List Po} {k p : Nat} : p ∈ tOf L k ↔ (⟨k, p⟩ : Po) ∈ L := by
  unfold tOf
  rw [List.mem_map]
  constructor
  · rintro ⟨⟨a, b⟩, h, rfl⟩
    rw [List.mem_filter] at h
    simp at h
    obtain ⟨h1, rfl⟩ := h
    exact h1
  · intro h
    exact ⟨⟨k, p⟩, List.mem_filter.2 ⟨h, by simp⟩, rfl⟩
theorem tOf_add (L : List Po) (k q : Nat) : tOf (L ++ [⟨k, q⟩]) = updT (tOf L) k (tOf L k ++ [q]) := by
  funext y
  unfold updT tOf
  rw [List.filter_append, List.map_append]
  by_cases h : y = k
  · subst h; simp
  · have h2 : ¬ k = y := fun e => h e.symm
    simp [h, h2]
theorem tOf_sub (L : List Po) (k p : Nat) : tOf (L.filter fun x => decide (x ≠ ⟨k, p⟩)) = out (tOf L) k p := by
  funext y
  unfold out updT tOf
  induction L with
  | nil => by_cases h : y = k <;> simp [h]
  | cons x L ih =>
    obtain ⟨a, b⟩ := x
    by_cases hy : y = k
    · subst hy
      rw [if_pos rfl] at ih ⊢
      by_cases ha : a = y
      · subst ha
        by_cases hb : b = p
        · subst hb
          simp at ih ⊢
          exact ih
        · simp [hb] at ih ⊢
          exact ih
      · simp [ha] at ih ⊢
        exact ih
    · rw [if_neg hy] at ih ⊢
      by_cases ha : a = y
      · subst ha
        have : ¬ (a = k ∧ b = p) := fun e => hy e.1
        simp [this] at ih ⊢
        exact ih
      · by_cases hk : a = k ∧ b = p
        · simp [hk] at ih ⊢
          have hk2 : ¬ k = y := fun e => hy e.symm
          simp [hk2]
          exact ih
        · simp [hk, ha] at ih ⊢
          exact ih
theorem tOf_step {L : List Po} {i : Nat} (h : i < L.length) (k : Nat) : (tOf (L.take (i + 1)) k).length = (tOf (L.take i) k).length + (if L[i].pr = k then 1 else 0) := by
  rw [List.take_add_one, List.getElem?_eq_getElem h]
  unfold tOf
  rw [List.filter_append, List.map_append, List.length_append]
  congr 1
  by_cases e : L[i].pr = k <;> simp [e]

/-- An entry. -/
structure EntP (u : World) (g j : Nat) (x : Po) : Prop where
  ld : (Instr.loadAt 43 (.pointer (some ⟨g, j * 2, none⟩))).run Tryd.prog u = .ok (.agg x.cells) u
  pr : u.cell? ⟨g, j * 2, none⟩ = some (.int .u8 (x.pr : Int))
theorem ents {w : World} {B : Nat} {a : Option Addr} {n c : Nat} {R : List Po} (h : Ow.Own kQ w B (.slice a n c) R) : ∀ j (hj : j < R.length), ∃ g, a = some ⟨g, 0, none⟩ ∧ ∀ u, Below w.heap.size w u → EntP u g j R[j] := fun j hj => by
  have hx : R[j]? = some R[j] := List.getElem?_eq_getElem hj
  obtain ⟨g, h1, h2, h3⟩ := h.at hx
  refine ⟨g, h1, fun u hu => ?_⟩
  obtain ⟨h4, h5⟩ := h3 u (hu.block g h2)
  exact ⟨h5, (h4 0 (by decide)).1⟩
theorem idxPo {g n c i : Nat} (h : i < n) (u : World) : (Instr.indexAt 29 (.slice (some ⟨g, 0, none⟩) n c) (.int .i64 (i : Int))).run Tryd.prog u = .ok (.pointer (some ⟨g, i * 2, none⟩)) u := by
  have h2 : (i : Int) < (n : Int) := by omega
  have h3 : (0 : Int) ≤ (i : Int) := by omega
  simp [go_sem, Tryd.underlying29, h2, Addr.add, Tryd.sizeOf43]
  exact fun h => h.symm
theorem eqPb (n : Nat) (a0 a1 c0 c1 : Int) (u : World) : (Op.equalIn (n + 2) 43 (.agg #[.int .u8 a0, .int .u16 a1]) (.agg #[.int .u8 c0, .int .u16 c1])).run Tryd.prog u = .ok (decide (a0 = c0) && decide (a1 = c1)) u := by
  rw [show n + 2 = (n + 1) + 1 from rfl, Op.equalIn]
  have s2 : ∀ w : World, (sizeOf 5).run Tryd.prog w = .ok 1 w := fun w => by kernel_rfl
  have s3 : ∀ w : World, (sizeOf 22).run Tryd.prog w = .ok 1 w := fun w => by kernel_rfl
  have i0 := fun w : World => run_equalIn_int (P := Tryd.prog) w n 5 .u8 .u8 a0 c0 u8q
  have i1 := fun w : World => run_equalIn_int (P := Tryd.prog) w n 22 .u16 .u16 a1 c1 u16q
  rw [show decide (a0 = c0) = (a0 == c0) from (by by_cases e : a0 = c0 <;> simp [e]), show decide (a1 = c1) = (a1 == c1) from (by by_cases e : a1 = c1 <;> simp [e])]
  generalize (a0 == c0) = b0 at *
  generalize (a1 == c1) = b1 at *
  cases b0 <;> cases b1 <;> simp [run_underlying Tryd.underlying43, s2, s3, part, i0, i1, go_sem]
theorem eqPo (n : Nat) (a c : Po) (u : World) : (Op.equalIn (n + 2) 43 (.agg a.cells) (.agg c.cells)).run Tryd.prog u = .ok (decide (a = c)) u := by
  refine (eqPb n (a.pr : Int) (a.n : Int) (c.pr : Int) (c.n : Int) u).trans ?_
  congr 1
  cases a with | mk a0 a1 => cases c with | mk c0 c1 =>
  simp only [Int.ofNat_inj, Po.mk.injEq]
  by_cases h0 : a0 = c0 <;> by_cases h1 : a1 = c1 <;> simp [h0, h1]
section
variable {o : Oper} {a : Act} {w : World}
theorem ex_eqP (x y : Operand) (T : TypeId) (c d : Po) (r : Bool) (ho : o.op = .binOp .eql 43 x y T) (hx : a.eval x = .agg c.cells) (hy : a.eval y = .agg d.cells) (hr : decide (c = d) = r) : (execOp a.eval o).run Tryd.prog w = .ok (.value (.bool r)) w := by
  have h : (Op.equal 43 (.agg c.cells) (.agg d.cells)).run Tryd.prog w = .ok (decide (c = d)) w := eqPo 9998 c d w
  unfold execOp
  simp only [ho, hx, hy]
  simp [eqGuard, binOp, go_sem, h, hr]
theorem ex_neP (x y : Operand) (T : TypeId) (c d : Po) (r : Bool) (ho : o.op = .binOp .neq 43 x y T) (hx : a.eval x = .agg c.cells) (hy : a.eval y = .agg d.cells) (hr : (!decide (c = d)) = r) : (execOp a.eval o).run Tryd.prog w = .ok (.value (.bool r)) w := by
  have h : (Op.equal 43 (.agg c.cells) (.agg d.cells)).run Tryd.prog w = .ok (decide (c = d)) w := eqPo 9998 c d w
  have h2 : (!decide (c = d)) = r := hr
  unfold execOp
  simp only [ho, hx, hy]
  generalize decide (c = d) = q at *
  subst h2
  simp [eqGuard, binOp, go_sem, h]
end

theorem hasP_any (x : Po) (w : World) (B : Nat) (a0 : Option Addr) (n c : Nat) (R : List Po) (ho : Ow.Own kQ w B (.slice a0 n c) R) (hl : R.length ≤ 1000000000) :
    Calls Tryd.prog 10 #[.slice a0 n c, .agg x.cells] w fun e w' => e = .returned (.bool (decide (x ∈ R))) ∧ Below w.heap.size w w' := by
  obtain ⟨_, _, _, e0, HN, -, -⟩ := ho.shape
  simp only [Value.slice.injEq] at e0
  obtain ⟨rfl, rfl, rfl⟩ := e0
  obtain ⟨b, HB⟩ : ∃ b, Hid (b = w.heap.size) := ⟨_, rfl⟩
  obtain ⟨w0, HW0⟩ : ∃ w0, Hid (w0 = w.alloc (.cells x.cells 43)) := ⟨_, rfl⟩
  have hb0 : Below w.heap.size w w0 := by rw [HW0.out]; exact (Below.refl _ _).alloc (Nat.le_refl _) _
  have r0 : w0.heap[b]? = some (.cells x.cells 43 (0, 0)) := by rw [HW0.out, HB.out]; exact heap_alloc_new w _
  have HAT := hid (ents (ho.below hb0))
  have HX : Hid (∀ u, Below w0.heap.size w0 u → (Instr.loadAt 43 (.pointer (some ⟨b, 0, none⟩))).run Tryd.prog u = .ok (.agg x.cells) u) := fun u hu => by
    have q := below_keeps hu r0 (Array.getElem?_eq_some_iff.1 r0).1
    obtain ⟨d, hd1, hd2⟩ := isPo
    refine run_loadAt_mid u b 0 43 x.cells.toList d (fun i v hv => ?_) hd1 hd2 (by kernel_rfl)
    rw [cell_of_row _ _ _ _ _ _ q, Nat.zero_add, ← hv, Array.getElem?_toList]
  have hn6 : n ≤ 1000000000 := by rw [HN.out]; exact hl
  have HB0 := hid hb0
  have HBR : Hid (Below w0.heap.size w0 w0) := Below.refl _ _
  have HNI : Hid (x ∉ R.take 0) := by unfold Hid; simp
  clear ho hl hb0 r0
  go_enter Tryd.func10, Tryd.ntmps10
  go_upto_region 1 with fail
  rw [← HW0.out, ← HB.out]
  go_wp2_with fail
  go_loopw [5] (fun kv wr => ∃ i : Nat, kv = .int .i64 (i : Int) ∧ i ≤ n ∧ Hid (x ∉ R.take i) ∧ Hid (Below w0.heap.size w0 wr)) (fun kv _ => match kv with | .int _ z => n - z.toNat | _ => 0)
  case atStart => exact ⟨0, rfl, Nat.zero_le _, HNI, HBR⟩
  case round =>
    obtain ⟨i, rfl, hi, HQ, HBW⟩ := hrel
    by_cases hin : i < n
    · have hil : i < R.length := by rw [← HN.out]; exact hin
      obtain ⟨g, rfl, hent⟩ := HAT.out i hil
      obtain ⟨X, HXX⟩ : ∃ x : Po, Hid (x = R[i]'hil) := ⟨_, rfl⟩
      rw [← HXX.out] at hent
      have HIN := hid hin
      have HE : Hid (∀ u : World, Below wr.heap.size wr u → EntP u g i X) := fun u hu => hent u (HBW.out.trans (hu.mono HBW.out.size))
      have HXE : Hid (∀ u : World, Below wr.heap.size wr u → (Instr.loadAt 43 (.pointer (some ⟨b, 0, none⟩))).run Tryd.prog u = .ok (.agg x.cells) u) := fun u hu => HX.out u (HBW.out.trans (hu.mono HBW.out.size))
      have h1 : (i : Int) < (n : Int) := by omega
      have wi : IntKind.i64.wrap ((i : Int) + 1) = ((i + 1 : Nat) : Int) := by rw [IntKind.wrap_i64]; omega
      obtain ⟨r, HR⟩ : ∃ r, Hid (decide (X = x) = r) := ⟨_, rfl⟩
      clear hent
      go_upto_region 4 with fail
      refine wp_region_guarded' 5 (fun i => ([12, 13, 14, 15, 16] : List Tmp).getD i 0) (Vs [.slice (some ⟨g, 0, none⟩) n c, .int .i64 (i : Int), .pointer (some ⟨g, i * 2, none⟩), .agg X.cells, .agg x.cells]) (fun u => Below wr.heap.size wr u) (fun _ u u' => Below u.heap.size u u') (by kernel_rfl) (by kernel_rfl) ⟨rfl, rfl, rfl, Nat.le_refl _, fun _ _ => rfl⟩ (fun _ _ _ _ _ _ h _ _ => h) ?_ ?_
      · simp only [List.take_succ_cons, List.take_zero, stepsG]
        refine ⟨?_, ?_, ?_, ?_, ?_, trivial⟩
        · intro a u vs hI hold hdep
          exact opAt_plain rfl (wp_still (ex_move (.tmp 0) _ rfl (hold 0 (dlM (L := [12, 13, 14, 15, 16]) (by decide)))) rfl rfl hI)
        · intro a u vs hI hold hdep
          exact opAt_plain rfl (wp_still (ex_move (.tmp 5) _ rfl (hold 5 (dlM (L := [12, 13, 14, 15, 16]) (by decide)))) rfl rfl hI)
        · intro a u vs hI hold hdep
          exact opAt_plain rfl (wp_still (ex_index 29 (.tmp 12) (.tmp 13) _ _ _ rfl (Vs.dep (hdep ⟨0, .data⟩ (by simp) rfl (by decide)) rfl) (Vs.dep (hdep ⟨1, .data⟩ (by simp) rfl (by decide)) rfl) (idxPo HIN.out u)) rfl rfl hI)
        · intro a u vs hI hold hdep
          exact opAt_plain rfl (wp_still (ex_load _ ⟨g, i * 2, none⟩ (.tmp 14) _ rfl (Vs.dep (hdep ⟨2, .data⟩ (by simp) rfl (by decide)) rfl) ((HE.out u hI).ld)) rfl rfl hI)
        · intro a u vs hI hold hdep
          exact opAt_plain rfl (wp_still (ex_load _ ⟨b, 0, none⟩ (.tmp 3) _ rfl (hold 3 (dlM (L := [12, 13, 14, 15, 16]) (by decide))) (HXE.out u hI)) rfl rfl hI)
      intro vs u hI hF
      have e0 : vs 0 = .slice (some ⟨g, 0, none⟩) n c := (Option.some.inj (hF 0 (by decide))).symm
      have e1 : vs 1 = .int .i64 (i : Int) := (Option.some.inj (hF 1 (by decide))).symm
      have e2 : vs 2 = .pointer (some ⟨g, i * 2, none⟩) := (Option.some.inj (hF 2 (by decide))).symm
      have e3 : vs 3 = .agg X.cells := (Option.some.inj (hF 3 (by decide))).symm
      have e4 : vs 4 = .agg x.cells := (Option.some.inj (hF 4 (by decide))).symm
      clear hF
      simp only [List.drop_succ_cons, List.drop_zero, puts, List.range, List.range.loop, List.foldr, if_true, List.getD_cons_zero, List.getD_cons_succ, e0, e1, e2, e3, e4, Act.put, List.setIfInBounds_toArray, List.set_cons_zero, List.set_cons_succ]
      clear e0 e1 e2 e3 e4
      have HB2 := hid (HBW.out.trans (hI.mono HBW.out.size))
      clear hI
      cases r with
      | true =>
        have HM : Hid (decide (x ∈ R) = true) := decide_eq_true (by
          have := of_decide_eq_true HR.out
          rw [← this, HXX.out]
          exact List.getElem_mem _)
        go_wp2_with (first | (refine wpList_val (ex_eqP (.tmp 15) (.tmp 16) _ X x true rfl rfl rfl HR.out) rfl ?_) | fail)
        go_ret
        exact ⟨by rw [HM.out]; rfl, HB0.out.trans (HB2.out.mono HB0.out.size)⟩
      | false =>
        have HQ2 : Hid (x ∉ R.take (i + 1)) := by
          unfold Hid
          rw [List.take_add_one, List.getElem?_eq_getElem hil, List.mem_append]
          rintro (e | e)
          · exact HQ.out e
          · simp at e
            have := of_decide_eq_false HR.out
            rw [HXX.out] at this
            exact this e.symm
        go_wp2_with (first | (refine wpList_val (ex_eqP (.tmp 15) (.tmp 16) _ X x false rfl rfl rfl HR.out) rfl ?_) | fail)
        go_roundw
        case rel => exact ⟨i + 1, rfl, by omega, HQ2, HB2⟩
        case measure => simp; omega
    · have h1 : ¬ (i : Int) < (n : Int) := by omega
      have HM : Hid (decide (x ∈ R) = false) := decide_eq_false (by
        have := HQ.out
        rw [List.take_of_length_le (by have := HN.out; omega)] at this
        exact this)
      go_wp2_with fail
      go_ret
      exact ⟨by rw [HM.out]; rfl, HB0.out.trans (HBW.out.mono HB0.out.size)⟩

theorem countP_any (k : Nat) (w : World) (B : Nat) (a0 : Option Addr) (n c : Nat) (R : List Po) (ho : Ow.Own kQ w B (.slice a0 n c) R) (hl : R.length ≤ 1000000000) :
    Calls Tryd.prog 9 #[.slice a0 n c, .int .u8 (k : Int)] w fun e w' => e = .returned (.int .i64 ((tOf R k).length : Nat)) ∧ w' = w := by
  obtain ⟨_, _, _, e0, HN, -, -⟩ := ho.shape
  simp only [Value.slice.injEq] at e0
  obtain ⟨rfl, rfl, rfl⟩ := e0
  have HAT := hid (ents ho)
  have hn6 : n ≤ 1000000000 := by rw [HN.out]; exact hl
  have HST : Hid ((0 : Nat) = (tOf (R.take 0) k).length) := rfl
  have HLE : Hid (∀ i, (tOf (R.take i) k).length ≤ i) := fun i => by
    unfold tOf
    rw [List.length_map]
    refine Nat.le_trans (List.length_filter_le _ _) ?_
    rw [List.length_take]
    omega
  clear ho hl
  go_enter Tryd.func9, Tryd.ntmps9
  go_wp2_with fail
  go_loopw [6, 5] (fun kv mv wr => ∃ i m : Nat, kv = .int .i64 (i : Int) ∧ mv = .int .i64 (m : Int) ∧ i ≤ n ∧ Hid (m = (tOf (R.take i) k).length) ∧ wr = w) (fun kv _ _ => match kv with | .int _ z => n - z.toNat | _ => 0)
  case atStart => exact ⟨0, 0, rfl, rfl, Nat.zero_le _, HST, by first | rfl | trivial⟩
  case round =>
    obtain ⟨i, m, rfl, rfl, hi, HQ, rfl⟩ := hrel
    by_cases hin : i < n
    · have hil : i < R.length := by rw [← HN.out]; exact hin
      obtain ⟨g, rfl, hent⟩ := HAT.out i hil
      obtain ⟨X, HXX⟩ : ∃ x : Po, Hid (x = R[i]'hil) := ⟨_, rfl⟩
      rw [← HXX.out] at hent
      have hce := (hent _ (Below.refl _ _)).pr
      have HSP := hid (tOf_step hil k)
      rw [← HXX.out] at HSP
      have hm := HLE.out i
      rw [← HQ.out] at hm HSP
      have h1 : (i : Int) < (n : Int) := by omega
      have h2 : (0 : Int) ≤ (i : Int) := by omega
      have wi : IntKind.i64.wrap ((i : Int) + 1) = ((i + 1 : Nat) : Int) := by rw [IntKind.wrap_i64]; omega
      have wm : IntKind.i64.wrap ((m : Int) + 1) = ((m + 1 : Nat) : Int) := by rw [IntKind.wrap_i64]; omega
      clear hent
      by_cases hk : X.pr = k
      · have hki : (X.pr : Int) = (k : Int) := by omega
        have HS2 : Hid (m + 1 = (tOf (R.take (i + 1)) k).length) := by unfold Hid; rw [HSP.out, if_pos hk]
        clear hk HSP HXX
        go_wp2_with fail
        go_roundw
        case rel => exact ⟨i + 1, m + 1, rfl, rfl, by omega, HS2, by first | rfl | trivial⟩
        case measure => simp; omega
      · have hki : ¬ (X.pr : Int) = (k : Int) := by omega
        have HS2 : Hid (m = (tOf (R.take (i + 1)) k).length) := by unfold Hid; rw [HSP.out, if_neg hk, Nat.add_zero]
        clear hk HSP HXX
        go_wp2_with fail
        go_roundw
        case rel => exact ⟨i + 1, m, rfl, rfl, by omega, HS2, by first | rfl | trivial⟩
        case measure => simp; omega
    · have h1 : ¬ (i : Int) < (n : Int) := by omega
      have HM : Hid (m = (tOf R k).length) := by
        have := HQ.out
        rw [List.take_of_length_le (by have := HN.out; omega)] at this
        exact this
      go_wp2_with fail
      go_ret
      exact ⟨by rw [← HM.out]; rfl, rfl⟩
end Go.Proofs.YthpokoiclfbddaaDoor.Nq
