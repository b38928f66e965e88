/-
  UnderOrder.
-/
import Derived.Test.YtaelfhjhinfikaaDSB
import Derived.Test.YtaelfhjhinfikaaVRO
import Derived.Great.BuildSlice
namespace Go.Proofs.Ytaelfhjhinfikaa
open Go.ChangeShapes Go.WideShapes Go.ChangeAt Go.RowKit Me N
set_option maxHeartbeats 8000000
set_option maxRecDepth 100000

/-- The slice value v shows the numbers N. -/
def SeesN (K : Nat → Prop) (w : World) (v : Value) (N : List Int) : Prop :=
  ∃ ao cap, v = .slice ao N.length cap ∧ N.length ≤ cap ∧ cap ≤ maxLen ∧
    ∀ j (h : j < N.length), ∃ g off, ao = some ⟨g, off, none⟩ ∧ (g < w.heap.size ∧ K g) ∧ w.cell? ⟨g, off + j, none⟩ = some (.int .i64 N[j]) ∧ (-9223372036854775808 ≤ N[j] ∧ N[j] ≤ 9223372036854775807)

section
variable {K : Nat → Prop} {w w' : World} {v : Value} {N : List Int}
theorem SeesN.shape (h : SeesN K w v N) : ∃ ao n cap, v = .slice ao n cap ∧ Hid (n = N.length) ∧ n ≤ cap ∧ cap ≤ maxLen := by
  obtain ⟨ao, cap, hv, h1, h2, _⟩ := h
  exact ⟨ao, N.length, cap, hv, rfl, h1, h2⟩
theorem SeesN.keeps {X : Nat → Prop} (h : SeesN K w v N) (hk : Keeps X w w') (hn : ∀ k, K k → ¬ X k) : SeesN K w' v N := by
  obtain ⟨ao, cap, hv, h1, h2, h3⟩ := h
  refine ⟨ao, cap, hv, h1, h2, fun j hj => ?_⟩
  obtain ⟨g, off, ha, hg, c0, c1⟩ := h3 j hj
  exact ⟨g, off, ha, ⟨Nat.lt_of_lt_of_le hg.1 hk.size, hg.2⟩, (World.cell?_of_block (w := w) (a := ⟨g, off + j, none⟩) (hk.block g hg.1 (hn g hg.2))).trans c0, c1⟩
theorem SeesN.below (h : SeesN K w v N) (hb : Below w.heap.size w w') : SeesN K w' v N := h.keeps (X := fun _ => False) (Keeps.of hb) fun _ _ e => e
theorem SeesN.at {ao : Option Addr} {n cap : Nat} (h : SeesN K w (.slice ao n cap) N) (j : Nat) (hj : j < n) : ∃ (g off : Nat) (x : Int), ao = some ⟨g, off, none⟩ ∧ (g < w.heap.size ∧ K g) ∧ w.cell? ⟨g, off + j, none⟩ = some (.int .i64 x) ∧ -9223372036854775808 ≤ x ∧ x ≤ 9223372036854775807 := by
  obtain ⟨ao', cap', hv, h1, h2, h3⟩ := h
  simp at hv
  obtain ⟨rfl, rfl, rfl⟩ := hv
  obtain ⟨g, off, a, b, c, d⟩ := h3 j hj
  exact ⟨g, off, N[j], a, b, c, d⟩
end

section
variable {o : Oper} {a : Act} {w : World}
theorem exo_neq (x : Operand) (i : Int) (b : Bool) (ho : o.op = .binOp .neq 29 x (.const (.int .i64 0)) 29) (hx : a.eval x = .int .i64 i) (hb : decide (i ≠ 0) = b) : (execOp a.eval o).run Try.prog w = .ok (.value (.bool b)) w := by
  simp only [execOp, ho, hx]
  simp [go_sem, eqGuard, ← hb]
  rw [Bool.eq_iff_iff]
  simp
theorem exo_add (x : Operand) (i : Int) (ho : o.op = .binOp .add 3 x (.const (.int .i64 1)) 3) (hx : a.eval x = .int .i64 i) (hi : -9223372036854775808 ≤ i) (hh : i ≤ 9223372036854775806) : (execOp a.eval o).run Try.prog w = .ok (.value (.int .i64 (i + 1))) w := by
  simp only [execOp, ho, hx]
  simp [go_sem, eqGuard]
  rw [IntKind.wrap_i64]
  omega
theorem exo_not (x : Operand) (b : Bool) (ho : o.op = .unOp .not 4 x) (hx : a.eval x = .bool b) : (execOp a.eval o).run Try.prog w = .ok (.value (.bool (!b))) w := by
  simp only [execOp, ho, hx]
  simp [go_sem]
theorem exo_cut (T : TypeId) (x y z : Operand) (s i j v : Value) (ho : o.op = .slice T x (some y) (some z) none) (hx : a.eval x = s) (hy : a.eval y = i) (hz : a.eval z = j) (hr : (Instr.sliceAt T s (some i) (some j) none).run Try.prog w = .ok v w) : (execOp a.eval o).run Try.prog w = .ok (.value v) w := by
  unfold execOp
  simp [ho, hx, hy, hz, hr]
end
theorem exo_bs {P : Program} {o : Oper} {a : Act} {w w' : World} (T : TypeId) (n : Nat) (parts : Array (Nat × Operand)) (ps : Array (Nat × Value)) (v : Value) (ho : o.op = .buildSlice T n parts) (hp : (parts.map fun (i, x) => (i, a.eval x)) = ps) (hr : (Instr.buildSlice T n ps).run P w = .ok v w') : (execOp a.eval o).run P w = .ok (.value v) w' := by
  unfold execOp
  simp only [ho, hp, Sem.run_bind, hr, Result.andThen_ok, Sem.run_pure]
theorem load_sno {u : World} {q : Nat} {x y : Value} (h0 : u.cell? ⟨q, 0, none⟩ = some x) (h1 : u.cell? ⟨q, 1, none⟩ = some y) : (Instr.loadAt 41 (.pointer (some ⟨q, 0, none⟩))).run Try.prog u = .ok (.agg #[x, y]) u := by
  simp [Instr.loadAt, go_sem, h0, h1]
theorem build_1 (x0 y0 : Value) (u : World) : (Instr.buildSlice 32 1 #[(0, .agg #[x0, y0])]).run Try.prog u = .ok (.slice (some ⟨u.heap.size, 0, none⟩) 1 1) (u.alloc (.cells #[x0, y0] 41)) := by
  obtain ⟨ie, hi, hz, hs, -⟩ := info_parts infoS
  refine run_buildSlice u _ _ 1 _ _ ie _ uS hi hz (by rw [hs]; decide) (by rw [hs]; decide) ?_
  simp only [hs, show Array.range (1 * 2) = #[0, 1] from rfl]
  simp [Instr.fill, Value.cells]
/-- What the operations of a comparison yield. -/
def FOr (s l cut : Value) (row : Array Value) (j : Nat) (i : Nat) (v : Value) (w : World) : Prop :=
  match i with
  | 0 => v = .int .i64 0
  | 1 => v = .bool false
  | 2 => v = .bool false
  | 3 => v = s
  | 4 => ∃ b, v = .slice (some ⟨b, 0, none⟩) 1 1 ∧ w.heap[b]? = some (.cells row 41 (0, 0))
  | 5 => v = l
  | 6 => v = .int .i64 (j : Int)
  | 7 => v = .int .i64 (j : Int)
  | 8 => v = .int .i64 ((j : Int) + 1)
  | 9 => v = cut
  | 10 => v = .bool true
  | 11 => v = .bool false
  | _ => True
theorem FOr.keeps (s l cut : Value) (row : Array Value) (j : Nat) {i : Nat} {v : Value} {w w' : World} (h : FOr s l cut row j i v w) (hb : Below w.heap.size w w') : FOr s l cut row j i v w' := by
  unfold FOr at *
  split at h <;> first | exact h | (obtain ⟨b, h1, h2⟩ := h; exact ⟨b, h1, below_keeps hb h2 (Array.getElem?_eq_some_iff.1 h2).1⟩)

theorem order_walk (v : Value) (L : List Pk) (vc : Value) (N : List Int) (w : World) (hv : SeesS (fun k => k < w.heap.size) w v L) (hc : SeesN (fun k => k < w.heap.size) w vc N) :
    Calls Try.prog 5 #[v, vc] w fun e w' => e = .returned (.bool true) ∧ Below w.heap.size w w' := by
  have HNW := hid (pn_new 4096 w)
  have HV := hid hv
  have HC := hid hc
  obtain ⟨ao, n, cap, rfl, HN, hn1, hn2⟩ := hv.shape
  obtain ⟨co, q, ccap, rfl, HQ, hq1, hq2⟩ := hc.shape
  unfold maxLen at hn2 hq2
  clear hv hc
  go_enter Try.func5, Try.ntmps5
  go_wp2_with fail
  refine HNW.out.mono ?_
  rintro _ w1 (⟨hb, rfl, rfl⟩ | ⟨hb, m, pb, hl, rfl, hp1⟩)
  · exact absurd hb (by decide)
  · obtain rfl : m = 4096 := by omega
    have HFI := hid (first_any w1)
    have HP1 := hid hp1
    clear HNW hb hp1 hl
    go_wp2_with fail
    refine HFI.out.mono ?_
    rintro _ w2 ⟨rfl, hb2⟩
    have HP2 := hid (HP1.out.below hb2)
    clear HFI hb2 HP1
    obtain ⟨K, HKE⟩ : ∃ K : Nat → Prop, Hid (K = fun k => k < w.heap.size) := ⟨_, rfl⟩
    rw [← HKE.out] at HV HP2 HC
    have HV2 := hid (HV.out.below HP2.out.be)
    have HC2 := hid (HC.out.below HP2.out.be)
    by_cases hbig : 4096 < n
    · have hbig' : (4096 : Int) < (n : Int) := by omega
      go_wp2_with fail
      go_ret
      exact ⟨rfl, HP2.out.be⟩
    have hbig' : ¬ (4096 : Int) < (n : Int) := by omega
    go_upto_region 7 with fail
    go_loopw [7] (fun i wr => ∃ j : Nat, i = .int .i64 (j : Int) ∧ j ≤ n ∧ wr = w2 ∧ Hid (∀ (i : Nat) (p : Pk), i < j → L[i]? = some p → p.bs.length ≤ 65535)) (fun i _ => n - (intOf i).toNat)
    case atStart => exact ⟨0, rfl, by omega, rfl, fun i p h => by omega⟩
    case round =>
      obtain ⟨j, rfl, hj, rfl, HA⟩ := hrel
      by_cases hlt : j < n
      · have hlt' : (j : Int) < (n : Int) := int_lt hlt
        have h2 : (0 : Int) ≤ (j : Int) := by omega
        obtain ⟨g, off, u, p, rfl, hg, c0, c1, hu, had, HX⟩ := HV2.out.at j hlt
        obtain ⟨ua, un, uc, rfl, HUN, hu1, hu2⟩ := hu.shape
        unfold maxLen at hu2
        clear c0 hg had hu
        by_cases hl : 65535 < un
        · have hl' : (65535 : Int) < (un : Int) := by omega
          go_wp2_with fail
          go_ret
          exact ⟨rfl, HP2.out.be⟩
        · have hl' : ¬ (65535 : Int) < (un : Int) := by omega
          have HA2 : Hid (∀ (i : Nat) (p : Pk), i < j + 1 → L[i]? = some p → p.bs.length ≤ 65535) := fun i p' hi hp => by
            rcases Nat.lt_or_ge i j with h | h
            · exact HA.out i p' h hp
            · have : i = j := by omega
              subst this
              rw [HX.out] at hp
              cases hp
              rw [← HUN.out]; omega
          clear HA
          go_wp2_with fail
          go_roundw
          case rel => exact ⟨j + 1, by go_num, hlt, trivial, HA2⟩
          case measure => simp [intOf]; omega
      · have hlt' : ¬ (j : Int) < (n : Int) := int_nlt hlt
        have HALL : Hid (∀ p ∈ L, p.bs.length ≤ 65535) := fun p hp => by
          obtain ⟨i, hi⟩ := List.mem_iff_getElem?.1 hp
          exact HA.out i p (by have := (List.getElem?_eq_some_iff.1 hi).1; have := HN.out; omega) hi
        clear HA
        obtain ⟨wo, hwo⟩ : ∃ wo, wo = wr := ⟨_, rfl⟩
        subst hwo
        go_upto_region 13 with fail
        clear hlt' hlt hj
        go_loopw [8, 9] (fun x i wr => ∃ (j a : Nat), i = .int .i64 (j : Int) ∧ x = .int .i64 (a : Int) ∧ j ≤ q ∧ a ≤ n ∧ Hid (Pn w K wr pb 4096 (L.take a)) ∧ Hid (SeesS K wr (.slice ao n cap) L) ∧ Hid (SeesN K wr (.slice co q ccap) N)) (fun _ i _ => q - (intOf i).toNat)
        case atStart => exact ⟨0, 0, rfl, rfl, by omega, by omega, by rw [List.take_zero]; exact HP2, HV2, HC2⟩
        case round =>
          clear HV2 HC2 HP2
          obtain ⟨j, a, rfl, rfl, hj, ha, HP, HV3, HC3⟩ := hrel
          by_cases hgo : j < q ∧ a < n
          · have hlt' : (j : Int) < (q : Int) := int_lt hgo.1
            have hat' : (a : Int) < (n : Int) := int_lt hgo.2
            have h2 : (0 : Int) ≤ (j : Int) := by omega
            have hjq := hgo.1
            obtain ⟨g, off, x, rfl, hg, c0, hxl, hxh⟩ := HC3.out.at j hgo.1
            have hw1 : (n : Int) - (a : Int) ≤ 9223372036854775807 := by omega
            by_cases hx : 0 < x ∧ x ≤ (n : Int) - (a : Int)
            · obtain ⟨c, rfl⟩ : ∃ c : Nat, x = (c : Int) := ⟨x.toNat, by omega⟩
              have z1 : decide ((0 : Int) < (c : Int)) = true := by simpa using hx.1
              have z2 : decide ((c : Int) ≤ (n : Int) - (a : Int)) = true := by simpa using hx.2
              have z3 : (0 : Int) < (c : Int) := hx.1
              have z4 : (c : Int) ≤ (n : Int) - (a : Int) := hx.2
              have hac : a + c ≤ n := by omega
              obtain ⟨ao', HS4, hcut⟩ := HV3.out.mid a (a + c) (a : Int) ((a : Int) + (c : Int)) rfl (by omega) (by omega) hac
              have hpu := pu_all (m := 4096) (S := L.take a) (L := (L.take (a + c)).drop a) (fun p hp => HALL.out p (List.mem_of_mem_take (List.mem_of_mem_drop hp))) (by rw [take_cut_len L a c (by have := HN.out; omega)]; omega)
              rw [take_cut L a c (by have := HN.out; omega), take_cut_len2 L a c (by have := HN.out; omega)] at hpu
              rw [show a + c - a = c by omega] at HS4 hcut
              have HA := hid (HP.out.put HS4.out)
              rw [hpu.1, hpu.2.1, hpu.2.2] at HA
              have z5 : (a : Int) + (c : Int) ≤ 9223372036854775807 := by omega
              have HCX := hid (fun (u : World) (hu : Keeps (fun k => ¬ K k) wr u) => (World.cell?_of_block (w := wr) (w' := u) (a := ⟨g, off + j, none⟩) (hu.block g hg.1 fun e => e hg.2)).trans c0)
              clear hpu hx hgo HS4 hg hxl hxh
              go_wp2_with fail
              refine HA.out.mono ?_
              rintro _ w4 ⟨rfl, hp4, hk4⟩
              have HP4 := hid hp4
              have HV4 := hid (HV3.out.keeps hk4 fun k h1 h2 => h2 h1)
              have HC4 := hid (HC3.out.keeps hk4 fun k h1 h2 => h2 h1)
              have c4 := HCX.out w4 hk4
              clear HA hp4 hk4 c0 hcut HCX
              go_wp2_with fail
              go_roundw
              case rel => exact ⟨j + 1, a + c, by go_num, by go_num, hjq, hac, HP4, HV4, HC4⟩
              case measure => simp [intOf]; omega
            · rcases Decidable.em (0 < x) with h0 | h0
              · have h1 : ¬ x ≤ (n : Int) - (a : Int) := fun e => hx ⟨h0, e⟩
                have z1 : decide ((0 : Int) < x) = true := by simpa using h0
                have z2 : decide (x ≤ (n : Int) - (a : Int)) = false := by simpa using h1
                clear hx hgo hg hxl hxh
                go_wp2_with fail
                go_roundw
                case rel => exact ⟨j + 1, a, by go_num, rfl, hjq, ha, HP, HV3, HC3⟩
                case measure => simp [intOf]; omega
              · have z1 : decide ((0 : Int) < x) = false := by simpa using h0
                clear hx hgo hg hxl hxh
                go_wp2_with fail
                go_roundw
                case rel => exact ⟨j + 1, a, by go_num, rfl, hjq, ha, HP, HV3, HC3⟩
                case measure => simp [intOf]; omega
          · have HEX : Hid ((j : Int) < (q : Int) → ¬ (a : Int) < (n : Int)) := fun h h' => hgo ⟨by omega, by omega⟩
            obtain ⟨ao', HS4, hcut⟩ := HV3.out.low a (a : Int) rfl ha
            have hpu := pu_all (m := 4096) (S := L.take a) (L := L.drop a) (fun p hp => HALL.out p (List.mem_of_mem_drop hp)) (by rw [List.length_take, List.length_drop]; have := HN.out; omega)
            rw [take_all, List.length_drop, ← HN.out] at hpu
            have HA := hid (HP.out.put HS4.out)
            rw [hpu.1, hpu.2.1, hpu.2.2] at HA
            have hna : ((n - a : Nat) : Int) = (n : Int) - (a : Int) := by omega
            have HNA := hid hna
            have z7 : (((n - a : Nat) : Int) == (n : Int) - (a : Int)) = true := by simp; omega
            obtain ⟨d, HD⟩ : ∃ d, Hid (d = n - a) := ⟨_, rfl⟩
            rw [← HD.out] at HA z7 HS4 hcut HNA
            clear hpu hgo HS4 hna
            by_cases hjq : j < q
            · have hlt' : (j : Int) < (q : Int) := int_lt hjq
              have hat' : ¬ (a : Int) < (n : Int) := HEX.out hlt'
              go_wp2_with fail
              refine HA.out.mono ?_
              rintro _ w4 ⟨rfl, hp4, hk4⟩
              have HP4 := hid hp4
              have HV4 := hid (HV3.out.keeps hk4 fun k h1 h2 => h2 h1)
              clear HA hp4 hk4 hcut HP HV3 HC3
              go_upto_region 24 with fail
              obtain ⟨wo, hwo⟩ : ∃ wo, wo = wr := ⟨_, rfl⟩
              subst hwo
              go_loopw [14] (fun i wr => ∃ j : Nat, i = .int .i64 (j : Int) ∧ j ≤ n ∧ Hid (Pn w K wr pb 4096 (L.drop j)) ∧ Hid (SeesS K wr (.slice ao n cap) L)) (fun i _ => n - (intOf i).toNat)
              case atStart => exact ⟨0, rfl, by omega, by rw [List.drop_zero]; exact HP4, HV4⟩
              case round =>
                clear HP4 HV4 z7
                obtain ⟨j, rfl, hj, HP, HV3⟩ := hrel
                by_cases hlt : j < n
                · have hlt2 : (j : Int) < (n : Int) := int_lt hlt
                  have h2 : (0 : Int) ≤ (j : Int) := by omega
                  obtain ⟨p, HPX⟩ : ∃ p, Hid (L[j]? = some p) := ⟨_, hid (List.getElem?_eq_getElem (by have := HN.out; omega))⟩
                  obtain ⟨t1, t2, t3⟩ := tk_head HPX.out
                  have HA := hid (HP.out.take 0)
                  rw [t1, t2, t3] at HA
                  have hsp : (L.take (j + 1)).drop j = [p] := by
                    rw [take_snoc HPX.out, List.drop_append_of_le_length (by rw [List.length_take]; have := HN.out; omega), List.drop_of_length_le (by rw [List.length_take]; omega)]; rfl
                  obtain ⟨pa, pbs⟩ := p
                  simp only at HA
                  clear t1 t2 t3
                  go_wp2_with fail
                  refine HA.out.mono ?_
                  rintro _ w4 ⟨ta, tn, tc, rfl, ho4, hp4, hk4⟩
                  have hV4 := HV3.out.keeps hk4 fun k h1 h2 => h2 h1
                  obtain ⟨ao', HS4, hcut⟩ := hV4.mid j (j + 1) (j : Int) ((j : Int) + 1) rfl (by omega) (by omega) hlt
                  rw [show j + 1 - j = 1 by omega, hsp] at HS4
                  rw [show j + 1 - j = 1 by omega] at hcut
                  have had : pa < 4294967296 ∧ ∀ x ∈ pbs, x < 256 := by
                    obtain ⟨_, _, _, h3⟩ := HS4.out
                    obtain ⟨_, _, u, _, _, _, _, h4, h5⟩ := h3.2.2 0 (by simp)
                    exact ⟨h5, h4.bytes⟩
                  obtain ⟨w5, HW5⟩ : ∃ w5, Hid (w5 = w4.alloc (.cells #[.int .u32 ((pa : Nat) : Int), .slice ta tn tc] 41)) := ⟨_, rfl⟩
                  have hb5 : Below w4.heap.size w4 w5 := by rw [HW5.out]; exact (Below.refl _ _).alloc (Nat.le_refl _) _
                  obtain ⟨b5, HB5⟩ : ∃ b, Hid (b = w4.heap.size) := ⟨_, rfl⟩
                  have r5 : w5.heap[b5]? = some (.cells #[.int .u32 ((pa : Nat) : Int), .slice ta tn tc] 41 (0, 0)) := by rw [HW5.out, HB5.out]; exact heap_alloc_new w4 _
                  have e0 : w5.cell? ⟨b5, 0, none⟩ = some (.int .u32 ((pa : Nat) : Int)) := by rw [cell_of_row _ _ _ _ _ _ r5]; rfl
                  have e1 : w5.cell? ⟨b5, 1, none⟩ = some (.slice ta tn tc) := by rw [cell_of_row _ _ _ _ _ _ r5]; rfl
                  have hb5l : b5 < w5.heap.size := (Array.getElem?_eq_some_iff.1 r5).1
                  have HSN : Hid (∀ (u : World) (b' : Nat), Below w5.heap.size w5 u → u.heap[b']? = some (.cells #[.int .u32 ((pa : Nat) : Int), .slice ta tn tc] 41 (0, 0)) → Calls Try.prog 18 #[.slice (some ⟨b', 0, none⟩) 1 1, .slice ao' 1 (cap - j)] u fun e w' => e = .returned (.bool true) ∧ Below u.heap.size u w') := fun u b' hu hr => sents_any _ _ [⟨pa, pbs⟩] (fun _ => True) K u (sees_one hr trivial ((((ho4.below hb5).below hu).sees had.2).weak fun _ _ _ => trivial) had.1) ((HS4.out.below hb5).below hu)
                  have HLD : Hid (∀ u : World, Below w5.heap.size w5 u → u.cell? ⟨b5, 0, none⟩ = some (.int .u32 ((pa : Nat) : Int)) ∧ u.cell? ⟨b5, 1, none⟩ = some (.slice ta tn tc)) := fun u hu => ⟨(hu.cell (p := ⟨b5, _, none⟩) hb5l).trans e0, (hu.cell (p := ⟨b5, _, none⟩) hb5l).trans e1⟩
                  have HEE : Hid (∀ w7, Below w5.heap.size w5 w7 → Pn w K w7 pb 4096 (L.drop (j + 1)) ∧ SeesS K w7 (.slice ao n cap) L) := fun w7 h7 => ⟨((hp4.less fun k e => .inl e).below hb5).below h7, (hV4.below hb5).below h7⟩
                  clear HA ho4 hp4 hk4 hV4 HS4 had hb5 r5 hsp HP HV3 e0 e1
                  go_upto_region 27 with fail
                  rw [← HW5.out, ← HB5.out]
                  refine wp_region_guarded' 12 (fun i => 136 + i) (FOr (.agg #[.int .u32 ((pa : Nat) : Int), .slice ta tn tc]) (.slice ao n cap) (.slice ao' 1 (cap - j)) #[.int .u32 ((pa : Nat) : Int), .slice ta tn tc] j) (fun u => Below w5.heap.size w5 u) (fun _ u u' => Below u.heap.size u u') (by kernel_rfl) (by kernel_rfl) (below_drew (Below.refl _ _)) (fun i _ v u u' _ hf _ hr => hf.keeps _ _ _ _ _ hr) ?_ ?_
                  · simp only [List.take_succ_cons, List.take_zero, stepsG]
                    refine ⟨?_, ?_, ?_, ?_, ?_, ?_, ?_, ?_, ?_, ?_, ?_, ?_, trivial⟩
                    · intro a u vs hb hold hdep
                      exact opAt_plain rfl (wp_val (ex_move (.tmp 16) _ rfl (hold 16 (fun j hj => low (by decide)))) ⟨_, rfl, rfl, hb, Below.refl _ _⟩)
                    · intro a u vs hb hold hdep
                      exact opAt_plain rfl (wp_val (exo_neq (.tmp 136) 0 false rfl ((hdep ⟨0, .data⟩ (by simp) rfl (by decide)).1.trans (hdep ⟨0, .data⟩ (by simp) rfl (by decide)).2) (by decide)) ⟨_, rfl, rfl, hb, Below.refl _ _⟩)
                    · intro a u vs hb hold hdep
                      exact opAt_plain rfl (wp_val (ex_move (.tmp 137) _ rfl ((hdep ⟨1, .data⟩ (by simp) rfl (by decide)).1.trans (hdep ⟨1, .data⟩ (by simp) rfl (by decide)).2)) ⟨_, rfl, rfl, hb, Below.refl _ _⟩)
                    · intro a u vs hb hold hdep
                      exact opAt_go (j := 2) (t := 138) (b := false) rfl rfl ((hdep ⟨2, .guard⟩ (by simp) rfl (by decide)).1.trans (hdep ⟨2, .guard⟩ (by simp) rfl (by decide)).2) (wp_val (ex_load _ _ (.tmp 15) _ rfl (hold 15 (fun j hj => low (by decide))) (load_sno (HLD.out u hb).1 (HLD.out u hb).2)) ⟨_, rfl, rfl, hb, Below.refl _ _⟩)
                    · intro a u vs hb hold hdep
                      have e3 : a.eval (.tmp 139) = _ := ((hdep ⟨3, .data⟩ (by simp) rfl (by decide)).1.trans (hdep ⟨3, .data⟩ (by simp) rfl (by decide)).2)
                      have hba : Below u.heap.size u (u.alloc (.cells #[.int .u32 ((pa : Nat) : Int), .slice ta tn tc] 41)) := (Below.refl _ _).alloc (Nat.le_refl _) _
                      exact opAt_go (j := 2) (t := 138) (b := false) rfl rfl ((hdep ⟨2, .guard⟩ (by simp) rfl (by decide)).1.trans (hdep ⟨2, .guard⟩ (by simp) rfl (by decide)).2) (wp_val (exo_bs _ 1 _ _ _ rfl (by simp only [List.map_toArray, List.map_cons, List.map_nil, e3]) (build_1 _ _ u)) ⟨_, rfl, ⟨_, rfl, heap_alloc_new u _⟩, hb.trans (hba.mono hb.size), hba⟩)
                    · intro a u vs hb hold hdep
                      exact opAt_go (j := 2) (t := 138) (b := false) rfl rfl ((hdep ⟨2, .guard⟩ (by simp) rfl (by decide)).1.trans (hdep ⟨2, .guard⟩ (by simp) rfl (by decide)).2) (wp_val (ex_move (.tmp 0) _ rfl (hold 0 (fun j hj => low (by decide)))) ⟨_, rfl, rfl, hb, Below.refl _ _⟩)
                    · intro a u vs hb hold hdep
                      exact opAt_go (j := 2) (t := 138) (b := false) rfl rfl ((hdep ⟨2, .guard⟩ (by simp) rfl (by decide)).1.trans (hdep ⟨2, .guard⟩ (by simp) rfl (by decide)).2) (wp_val (ex_move (.tmp 14) _ rfl (hold 14 (fun j hj => low (by decide)))) ⟨_, rfl, rfl, hb, Below.refl _ _⟩)
                    · intro a u vs hb hold hdep
                      exact opAt_go (j := 2) (t := 138) (b := false) rfl rfl ((hdep ⟨2, .guard⟩ (by simp) rfl (by decide)).1.trans (hdep ⟨2, .guard⟩ (by simp) rfl (by decide)).2) (wp_val (ex_move (.tmp 14) _ rfl (hold 14 (fun j hj => low (by decide)))) ⟨_, rfl, rfl, hb, Below.refl _ _⟩)
                    · intro a u vs hb hold hdep
                      exact opAt_go (j := 2) (t := 138) (b := false) rfl rfl ((hdep ⟨2, .guard⟩ (by simp) rfl (by decide)).1.trans (hdep ⟨2, .guard⟩ (by simp) rfl (by decide)).2) (wp_val (exo_add (.tmp 143) (j : Int) rfl ((hdep ⟨7, .data⟩ (by simp) rfl (by decide)).1.trans (hdep ⟨7, .data⟩ (by simp) rfl (by decide)).2) (by omega) (by omega)) ⟨_, rfl, rfl, hb, Below.refl _ _⟩)
                    · intro a u vs hb hold hdep
                      exact opAt_go (j := 2) (t := 138) (b := false) rfl rfl ((hdep ⟨2, .guard⟩ (by simp) rfl (by decide)).1.trans (hdep ⟨2, .guard⟩ (by simp) rfl (by decide)).2) (wp_val (exo_cut _ (.tmp 141) (.tmp 142) (.tmp 144) _ _ _ _ rfl ((hdep ⟨5, .data⟩ (by simp) rfl (by decide)).1.trans (hdep ⟨5, .data⟩ (by simp) rfl (by decide)).2) ((hdep ⟨6, .data⟩ (by simp) rfl (by decide)).1.trans (hdep ⟨6, .data⟩ (by simp) rfl (by decide)).2) ((hdep ⟨8, .data⟩ (by simp) rfl (by decide)).1.trans (hdep ⟨8, .data⟩ (by simp) rfl (by decide)).2) (hcut u)) ⟨_, rfl, rfl, hb, Below.refl _ _⟩)
                    · intro a u vs hb hold hdep
                      have h4 := hdep ⟨4, .data⟩ (by simp) rfl (by decide)
                      obtain ⟨b', v4, f4⟩ := h4.2
                      have e4 : a.eval (.tmp 140) = .slice (some ⟨b', 0, none⟩) 1 1 := h4.1.trans v4
                      have e9 : a.eval (.tmp 145) = .slice ao' 1 (cap - j) := ((hdep ⟨9, .data⟩ (by simp) rfl (by decide)).1.trans (hdep ⟨9, .data⟩ (by simp) rfl (by decide)).2)
                      refine opAt_go (j := 2) (t := 138) (b := false) rfl rfl ((hdep ⟨2, .guard⟩ (by simp) rfl (by decide)).1.trans (hdep ⟨2, .guard⟩ (by simp) rfl (by decide)).2) ?_
                      refine wp_call 18 _ _ rfl (enters_of Try.func18 (by kernel_rfl) rfl) #[.slice (some ⟨b', 0, none⟩) 1 1, .slice ao' 1 (cap - j)] (by simp only [List.map_toArray, List.map_cons, List.map_nil, e4, e9]) ?_
                      refine (HSN.out u b' hb f4).mono ?_
                      rintro _ u' ⟨rfl, hb'⟩
                      exact ⟨_, rfl, _, rfl, rfl, hb.trans (hb'.mono hb.size), hb'⟩
                    · intro a u vs hb hold hdep
                      exact opAt_go (j := 2) (t := 138) (b := false) rfl rfl ((hdep ⟨2, .guard⟩ (by simp) rfl (by decide)).1.trans (hdep ⟨2, .guard⟩ (by simp) rfl (by decide)).2) (wp_val (exo_not (.tmp 146) true rfl ((hdep ⟨10, .data⟩ (by simp) rfl (by decide)).1.trans (hdep ⟨10, .data⟩ (by simp) rfl (by decide)).2)) ⟨_, rfl, rfl, hb, Below.refl _ _⟩)
                  intro vs u hb hF
                  have e11 : vs 11 = .bool false := hF 11 (by decide)
                  have e2 : vs 2 = .bool false := hF 2 (by decide)
                  have HE := hid (HEE.out u hb)
                  simp only [List.drop_succ_cons, List.drop_zero, puts, List.range, List.range.loop, List.foldr, if_true, e11, e2, Act.put, List.setIfInBounds_toArray, List.set_cons_zero, List.set_cons_succ]
                  clear hF e11 e2 hb
                  generalize vs 0 = u0 at *
                  generalize vs 1 = u1 at *
                  generalize vs 3 = u3 at *
                  generalize vs 4 = u4 at *
                  generalize vs 5 = u5 at *
                  generalize vs 6 = u6 at *
                  generalize vs 7 = u7 at *
                  generalize vs 8 = u8 at *
                  generalize vs 9 = u9 at *
                  generalize vs 10 = u10 at *
                  clear hcut
                  go_wp2_with fail
                  go_roundw
                  case rel => exact ⟨j + 1, by go_num, hlt, HE.out.1, HE.out.2⟩
                  case measure => simp [intOf]; omega
                · have hlt2 : ¬ (j : Int) < (n : Int) := int_nlt hlt
                  have hdn : L.drop j = [] := drop_nil (by have := HN.out; omega)
                  have HA := hid (HP.out.take 0)
                  rw [hdn] at HA
                  have t1 : tkE [] 0 = 3 := by decide
                  rw [t1] at HA
                  generalize tkP [] 0 = P at *
                  obtain ⟨pa, pbs⟩ := P
                  simp only at HA
                  clear hdn t1
                  go_wp2_with fail
                  refine HA.out.mono ?_
                  rintro _ w4 ⟨ta, tn, tc, rfl, ho4, hp4, hk4⟩
                  have HEE : Hid (∀ o : Obj, Below w.heap.size w (w4.alloc o)) := fun o => hp4.be.alloc hp4.be.size o
                  clear HA ho4 hp4 hk4
                  go_wp2_with fail
                  go_ret
                  exact ⟨rfl, HEE.out _⟩
            · have hlt' : ¬ (j : Int) < (q : Int) := int_nlt hjq
              go_wp2_with fail
              refine HA.out.mono ?_
              rintro _ w4 ⟨rfl, hp4, hk4⟩
              have HP4 := hid hp4
              have HV4 := hid (HV3.out.keeps hk4 fun k h1 h2 => h2 h1)
              clear HA hp4 hk4 hcut HP HV3 HC3
              go_upto_region 24 with fail
              obtain ⟨wo, hwo⟩ : ∃ wo, wo = wr := ⟨_, rfl⟩
              subst hwo
              go_loopw [14] (fun i wr => ∃ j : Nat, i = .int .i64 (j : Int) ∧ j ≤ n ∧ Hid (Pn w K wr pb 4096 (L.drop j)) ∧ Hid (SeesS K wr (.slice ao n cap) L)) (fun i _ => n - (intOf i).toNat)
              case atStart => exact ⟨0, rfl, by omega, by rw [List.drop_zero]; exact HP4, HV4⟩
              case round =>
                clear HP4 HV4 z7
                obtain ⟨j, rfl, hj, HP, HV3⟩ := hrel
                by_cases hlt : j < n
                · have hlt2 : (j : Int) < (n : Int) := int_lt hlt
                  have h2 : (0 : Int) ≤ (j : Int) := by omega
                  obtain ⟨p, HPX⟩ : ∃ p, Hid (L[j]? = some p) := ⟨_, hid (List.getElem?_eq_getElem (by have := HN.out; omega))⟩
                  obtain ⟨t1, t2, t3⟩ := tk_head HPX.out
                  have HA := hid (HP.out.take 0)
                  rw [t1, t2, t3] at HA
                  have hsp : (L.take (j + 1)).drop j = [p] := by
                    rw [take_snoc HPX.out, List.drop_append_of_le_length (by rw [List.length_take]; have := HN.out; omega), List.drop_of_length_le (by rw [List.length_take]; omega)]; rfl
                  obtain ⟨pa, pbs⟩ := p
                  simp only at HA
                  clear t1 t2 t3
                  go_wp2_with fail
                  refine HA.out.mono ?_
                  rintro _ w4 ⟨ta, tn, tc, rfl, ho4, hp4, hk4⟩
                  have hV4 := HV3.out.keeps hk4 fun k h1 h2 => h2 h1
                  obtain ⟨ao', HS4, hcut⟩ := hV4.mid j (j + 1) (j : Int) ((j : Int) + 1) rfl (by omega) (by omega) hlt
                  rw [show j + 1 - j = 1 by omega, hsp] at HS4
                  rw [show j + 1 - j = 1 by omega] at hcut
                  have had : pa < 4294967296 ∧ ∀ x ∈ pbs, x < 256 := by
                    obtain ⟨_, _, _, h3⟩ := HS4.out
                    obtain ⟨_, _, u, _, _, _, _, h4, h5⟩ := h3.2.2 0 (by simp)
                    exact ⟨h5, h4.bytes⟩
                  obtain ⟨w5, HW5⟩ : ∃ w5, Hid (w5 = w4.alloc (.cells #[.int .u32 ((pa : Nat) : Int), .slice ta tn tc] 41)) := ⟨_, rfl⟩
                  have hb5 : Below w4.heap.size w4 w5 := by rw [HW5.out]; exact (Below.refl _ _).alloc (Nat.le_refl _) _
                  obtain ⟨b5, HB5⟩ : ∃ b, Hid (b = w4.heap.size) := ⟨_, rfl⟩
                  have r5 : w5.heap[b5]? = some (.cells #[.int .u32 ((pa : Nat) : Int), .slice ta tn tc] 41 (0, 0)) := by rw [HW5.out, HB5.out]; exact heap_alloc_new w4 _
                  have e0 : w5.cell? ⟨b5, 0, none⟩ = some (.int .u32 ((pa : Nat) : Int)) := by rw [cell_of_row _ _ _ _ _ _ r5]; rfl
                  have e1 : w5.cell? ⟨b5, 1, none⟩ = some (.slice ta tn tc) := by rw [cell_of_row _ _ _ _ _ _ r5]; rfl
                  have hb5l : b5 < w5.heap.size := (Array.getElem?_eq_some_iff.1 r5).1
                  have HSN : Hid (∀ (u : World) (b' : Nat), Below w5.heap.size w5 u → u.heap[b']? = some (.cells #[.int .u32 ((pa : Nat) : Int), .slice ta tn tc] 41 (0, 0)) → Calls Try.prog 18 #[.slice (some ⟨b', 0, none⟩) 1 1, .slice ao' 1 (cap - j)] u fun e w' => e = .returned (.bool true) ∧ Below u.heap.size u w') := fun u b' hu hr => sents_any _ _ [⟨pa, pbs⟩] (fun _ => True) K u (sees_one hr trivial ((((ho4.below hb5).below hu).sees had.2).weak fun _ _ _ => trivial) had.1) ((HS4.out.below hb5).below hu)
                  have HLD : Hid (∀ u : World, Below w5.heap.size w5 u → u.cell? ⟨b5, 0, none⟩ = some (.int .u32 ((pa : Nat) : Int)) ∧ u.cell? ⟨b5, 1, none⟩ = some (.slice ta tn tc)) := fun u hu => ⟨(hu.cell (p := ⟨b5, _, none⟩) hb5l).trans e0, (hu.cell (p := ⟨b5, _, none⟩) hb5l).trans e1⟩
                  have HEE : Hid (∀ w7, Below w5.heap.size w5 w7 → Pn w K w7 pb 4096 (L.drop (j + 1)) ∧ SeesS K w7 (.slice ao n cap) L) := fun w7 h7 => ⟨((hp4.less fun k e => .inl e).below hb5).below h7, (hV4.below hb5).below h7⟩
                  clear HA ho4 hp4 hk4 hV4 HS4 had hb5 r5 hsp HP HV3 e0 e1
                  go_upto_region 27 with fail
                  rw [← HW5.out, ← HB5.out]
                  refine wp_region_guarded' 12 (fun i => 136 + i) (FOr (.agg #[.int .u32 ((pa : Nat) : Int), .slice ta tn tc]) (.slice ao n cap) (.slice ao' 1 (cap - j)) #[.int .u32 ((pa : Nat) : Int), .slice ta tn tc] j) (fun u => Below w5.heap.size w5 u) (fun _ u u' => Below u.heap.size u u') (by kernel_rfl) (by kernel_rfl) (below_drew (Below.refl _ _)) (fun i _ v u u' _ hf _ hr => hf.keeps _ _ _ _ _ hr) ?_ ?_
                  · simp only [List.take_succ_cons, List.take_zero, stepsG]
                    refine ⟨?_, ?_, ?_, ?_, ?_, ?_, ?_, ?_, ?_, ?_, ?_, ?_, trivial⟩
                    · intro a u vs hb hold hdep
                      exact opAt_plain rfl (wp_val (ex_move (.tmp 16) _ rfl (hold 16 (fun j hj => low (by decide)))) ⟨_, rfl, rfl, hb, Below.refl _ _⟩)
                    · intro a u vs hb hold hdep
                      exact opAt_plain rfl (wp_val (exo_neq (.tmp 136) 0 false rfl ((hdep ⟨0, .data⟩ (by simp) rfl (by decide)).1.trans (hdep ⟨0, .data⟩ (by simp) rfl (by decide)).2) (by decide)) ⟨_, rfl, rfl, hb, Below.refl _ _⟩)
                    · intro a u vs hb hold hdep
                      exact opAt_plain rfl (wp_val (ex_move (.tmp 137) _ rfl ((hdep ⟨1, .data⟩ (by simp) rfl (by decide)).1.trans (hdep ⟨1, .data⟩ (by simp) rfl (by decide)).2)) ⟨_, rfl, rfl, hb, Below.refl _ _⟩)
                    · intro a u vs hb hold hdep
                      exact opAt_go (j := 2) (t := 138) (b := false) rfl rfl ((hdep ⟨2, .guard⟩ (by simp) rfl (by decide)).1.trans (hdep ⟨2, .guard⟩ (by simp) rfl (by decide)).2) (wp_val (ex_load _ _ (.tmp 15) _ rfl (hold 15 (fun j hj => low (by decide))) (load_sno (HLD.out u hb).1 (HLD.out u hb).2)) ⟨_, rfl, rfl, hb, Below.refl _ _⟩)
                    · intro a u vs hb hold hdep
                      have e3 : a.eval (.tmp 139) = _ := ((hdep ⟨3, .data⟩ (by simp) rfl (by decide)).1.trans (hdep ⟨3, .data⟩ (by simp) rfl (by decide)).2)
                      have hba : Below u.heap.size u (u.alloc (.cells #[.int .u32 ((pa : Nat) : Int), .slice ta tn tc] 41)) := (Below.refl _ _).alloc (Nat.le_refl _) _
                      exact opAt_go (j := 2) (t := 138) (b := false) rfl rfl ((hdep ⟨2, .guard⟩ (by simp) rfl (by decide)).1.trans (hdep ⟨2, .guard⟩ (by simp) rfl (by decide)).2) (wp_val (exo_bs _ 1 _ _ _ rfl (by simp only [List.map_toArray, List.map_cons, List.map_nil, e3]) (build_1 _ _ u)) ⟨_, rfl, ⟨_, rfl, heap_alloc_new u _⟩, hb.trans (hba.mono hb.size), hba⟩)
                    · intro a u vs hb hold hdep
                      exact opAt_go (j := 2) (t := 138) (b := false) rfl rfl ((hdep ⟨2, .guard⟩ (by simp) rfl (by decide)).1.trans (hdep ⟨2, .guard⟩ (by simp) rfl (by decide)).2) (wp_val (ex_move (.tmp 0) _ rfl (hold 0 (fun j hj => low (by decide)))) ⟨_, rfl, rfl, hb, Below.refl _ _⟩)
                    · intro a u vs hb hold hdep
                      exact opAt_go (j := 2) (t := 138) (b := false) rfl rfl ((hdep ⟨2, .guard⟩ (by simp) rfl (by decide)).1.trans (hdep ⟨2, .guard⟩ (by simp) rfl (by decide)).2) (wp_val (ex_move (.tmp 14) _ rfl (hold 14 (fun j hj => low (by decide)))) ⟨_, rfl, rfl, hb, Below.refl _ _⟩)
                    · intro a u vs hb hold hdep
                      exact opAt_go (j := 2) (t := 138) (b := false) rfl rfl ((hdep ⟨2, .guard⟩ (by simp) rfl (by decide)).1.trans (hdep ⟨2, .guard⟩ (by simp) rfl (by decide)).2) (wp_val (ex_move (.tmp 14) _ rfl (hold 14 (fun j hj => low (by decide)))) ⟨_, rfl, rfl, hb, Below.refl _ _⟩)
                    · intro a u vs hb hold hdep
                      exact opAt_go (j := 2) (t := 138) (b := false) rfl rfl ((hdep ⟨2, .guard⟩ (by simp) rfl (by decide)).1.trans (hdep ⟨2, .guard⟩ (by simp) rfl (by decide)).2) (wp_val (exo_add (.tmp 143) (j : Int) rfl ((hdep ⟨7, .data⟩ (by simp) rfl (by decide)).1.trans (hdep ⟨7, .data⟩ (by simp) rfl (by decide)).2) (by omega) (by omega)) ⟨_, rfl, rfl, hb, Below.refl _ _⟩)
                    · intro a u vs hb hold hdep
                      exact opAt_go (j := 2) (t := 138) (b := false) rfl rfl ((hdep ⟨2, .guard⟩ (by simp) rfl (by decide)).1.trans (hdep ⟨2, .guard⟩ (by simp) rfl (by decide)).2) (wp_val (exo_cut _ (.tmp 141) (.tmp 142) (.tmp 144) _ _ _ _ rfl ((hdep ⟨5, .data⟩ (by simp) rfl (by decide)).1.trans (hdep ⟨5, .data⟩ (by simp) rfl (by decide)).2) ((hdep ⟨6, .data⟩ (by simp) rfl (by decide)).1.trans (hdep ⟨6, .data⟩ (by simp) rfl (by decide)).2) ((hdep ⟨8, .data⟩ (by simp) rfl (by decide)).1.trans (hdep ⟨8, .data⟩ (by simp) rfl (by decide)).2) (hcut u)) ⟨_, rfl, rfl, hb, Below.refl _ _⟩)
                    · intro a u vs hb hold hdep
                      have h4 := hdep ⟨4, .data⟩ (by simp) rfl (by decide)
                      obtain ⟨b', v4, f4⟩ := h4.2
                      have e4 : a.eval (.tmp 140) = .slice (some ⟨b', 0, none⟩) 1 1 := h4.1.trans v4
                      have e9 : a.eval (.tmp 145) = .slice ao' 1 (cap - j) := ((hdep ⟨9, .data⟩ (by simp) rfl (by decide)).1.trans (hdep ⟨9, .data⟩ (by simp) rfl (by decide)).2)
                      refine opAt_go (j := 2) (t := 138) (b := false) rfl rfl ((hdep ⟨2, .guard⟩ (by simp) rfl (by decide)).1.trans (hdep ⟨2, .guard⟩ (by simp) rfl (by decide)).2) ?_
                      refine wp_call 18 _ _ rfl (enters_of Try.func18 (by kernel_rfl) rfl) #[.slice (some ⟨b', 0, none⟩) 1 1, .slice ao' 1 (cap - j)] (by simp only [List.map_toArray, List.map_cons, List.map_nil, e4, e9]) ?_
                      refine (HSN.out u b' hb f4).mono ?_
                      rintro _ u' ⟨rfl, hb'⟩
                      exact ⟨_, rfl, _, rfl, rfl, hb.trans (hb'.mono hb.size), hb'⟩
                    · intro a u vs hb hold hdep
                      exact opAt_go (j := 2) (t := 138) (b := false) rfl rfl ((hdep ⟨2, .guard⟩ (by simp) rfl (by decide)).1.trans (hdep ⟨2, .guard⟩ (by simp) rfl (by decide)).2) (wp_val (exo_not (.tmp 146) true rfl ((hdep ⟨10, .data⟩ (by simp) rfl (by decide)).1.trans (hdep ⟨10, .data⟩ (by simp) rfl (by decide)).2)) ⟨_, rfl, rfl, hb, Below.refl _ _⟩)
                  intro vs u hb hF
                  have e11 : vs 11 = .bool false := hF 11 (by decide)
                  have e2 : vs 2 = .bool false := hF 2 (by decide)
                  have HE := hid (HEE.out u hb)
                  simp only [List.drop_succ_cons, List.drop_zero, puts, List.range, List.range.loop, List.foldr, if_true, e11, e2, Act.put, List.setIfInBounds_toArray, List.set_cons_zero, List.set_cons_succ]
                  clear hF e11 e2 hb
                  generalize vs 0 = u0 at *
                  generalize vs 1 = u1 at *
                  generalize vs 3 = u3 at *
                  generalize vs 4 = u4 at *
                  generalize vs 5 = u5 at *
                  generalize vs 6 = u6 at *
                  generalize vs 7 = u7 at *
                  generalize vs 8 = u8 at *
                  generalize vs 9 = u9 at *
                  generalize vs 10 = u10 at *
                  clear hcut
                  go_wp2_with fail
                  go_roundw
                  case rel => exact ⟨j + 1, by go_num, hlt, HE.out.1, HE.out.2⟩
                  case measure => simp [intOf]; omega
                · have hlt2 : ¬ (j : Int) < (n : Int) := int_nlt hlt
                  have hdn : L.drop j = [] := drop_nil (by have := HN.out; omega)
                  have HA := hid (HP.out.take 0)
                  rw [hdn] at HA
                  have t1 : tkE [] 0 = 3 := by decide
                  rw [t1] at HA
                  generalize tkP [] 0 = P at *
                  obtain ⟨pa, pbs⟩ := P
                  simp only at HA
                  clear hdn t1
                  go_wp2_with fail
                  refine HA.out.mono ?_
                  rintro _ w4 ⟨ta, tn, tc, rfl, ho4, hp4, hk4⟩
                  have HEE : Hid (∀ o : Obj, Below w.heap.size w (w4.alloc o)) := fun o => hp4.be.alloc hp4.be.size o
                  clear HA ho4 hp4 hk4
                  go_wp2_with fail
                  go_ret
                  exact ⟨rfl, HEE.out _⟩
end Go.Proofs.Ytaelfhjhinfikaa
