/-
  (*Pool).nextFree.
-/
import Derived.Test.YtahoileampdnkaaOP
import Derived.WalkMore
namespace Go.Proofs.Ytahoileampdnkaa
open Go.ChangeShapes Go.WideShapes Go.ChangeAt Go.RowKit Ru N Tri
set_option maxHeartbeats 4000000
set_option maxRecDepth 100000

/-- What is found of k of the two lists. -/
structure Gp (ks ts : List R) (hi m b k : Nat) : Prop where
  mb : m ≤ b
  bh : b ≤ hi
  fk : 1 ≤ k → ∀ x, m ≤ x → x ≤ b → ¬ Mem ks x
  ft : 2 ≤ k → ∀ x, m ≤ x → x ≤ b → ¬ Mem ts x
  nx : b = hi ∨ Mem ks (b + 1) ∨ Mem ts (b + 1)

/-- A list without m: up to where it is free. -/
theorem free_to {X : List R} {m i b : Nat} (hr : Runs X) (ha : At X m i) (hn : ¬ Mem X m) (_hb : m ≤ b) :
    (X[i]? = none → ∀ x, m ≤ x → x ≤ b → ¬ Mem X x) ∧ ∀ r, X[i]? = some r → m < r.1 ∧ (∀ x, m ≤ x → x ≤ min b (r.1 - 1) → ¬ Mem X x) ∧ (min b (r.1 - 1) = b ∨ Mem X (min b (r.1 - 1) + 1)) := by
  refine ⟨fun h x h1 _ => ha.none (by have := List.getElem?_eq_none_iff.1 h; have := ha.le; omega) h1, fun r h => ?_⟩
  have h1 : m < r.1 := by
    rcases Nat.lt_or_ge m r.1 with h1 | h1
    · exact h1
    · exact absurd ((ha.mem hr).2 ⟨r, h, h1⟩) hn
  refine ⟨h1, fun x h2 h3 => ha.gap hr h h2 (by omega), ?_⟩
  rcases Nat.lt_or_ge b r.1 with h2 | h2
  · left; omega
  · right
    rw [show min b (r.1 - 1) + 1 = r.1 by omega]
    have h3 := List.mem_of_getElem? h
    exact ⟨r, h3, Nat.le_refl _, (hr.ok r h3).1⟩

/-- All from n on up to m are used. -/
def Us (ks ts : List R) (n m : Nat) : Prop := n ≤ m ∧ ∀ x, n ≤ x → x < m → Mem ks x ∨ Mem ts x

/-- What nextFree answers. -/
def NextF (ks ts : List R) (hi n : Nat) (e : Ending) : Prop :=
  (∃ a b : Nat, e = .returned (.tuple #[.agg #[.int .i64 (a : Int), .int .i64 (b : Int)], .bool true]) ∧ n ≤ a ∧ a ≤ b ∧ b ≤ hi ∧ (∀ x, n ≤ x → x < a → Mem ks x ∨ Mem ts x) ∧ (∀ x, a ≤ x → x ≤ b → ¬ Mem ks x ∧ ¬ Mem ts x) ∧ (b = hi ∨ Mem ks (b + 1) ∨ Mem ts (b + 1))) ∨
  (e = .returned (.tuple #[.agg #[.int .i64 0, .int .i64 0], .bool false]) ∧ ∀ x : Nat, n ≤ x → x ≤ hi → Mem ks x ∨ Mem ts x)

theorem next_any (pb n sub lo hi : Nat) (vk vt : Value) (ks ts : List R) (w : World) (hp : PoolAt w pb vk vt sub lo hi ks ts) (hn : n ≤ 4294967297) :
    Calls Try.prog 32 #[.pointer (some ⟨pb, 0, none⟩), .int .i64 (n : Int)] w fun e w' => NextF ks ts hi n e ∧ Below w.heap.size w w' := by
  obtain ⟨w0, HW0⟩ : ∃ w0, Hid (w0 = w.alloc (.cells #[.int .i64 0, .int .i64 0] 64)) := ⟨_, rfl⟩
  have hb0 : Below w.heap.size w w0 := by rw [HW0.out]; exact (Below.refl _ _).alloc (Nat.le_refl _) _
  have r0 : w0.heap[w.heap.size]? = some (.cells #[.int .i64 0, .int .i64 0] 64) := by rw [HW0.out]; exact heap_alloc_new w _
  have hs0 : w0.heap.size = w.heap.size + 1 := by rw [HW0.out]; simp
  obtain ⟨rb, HRB⟩ : ∃ rb, Hid (rb = w.heap.size) := ⟨_, rfl⟩
  have HP := hid (hp.below hb0)
  have HB0 := hid hb0
  have R0 := hid r0
  have hh := hp.hh
  have hpl : pb < w0.heap.size := (Array.getElem?_eq_some_iff.1 HP.out.row).1
  have hvk : ∃ a l c, vk = .slice a l c := by obtain ⟨a, l, c, h, -⟩ := hp.ok.shape; exact ⟨a, l, c, h⟩
  have hvt : ∃ a l c, vt = .slice a l c := by obtain ⟨a, l, c, h, -⟩ := hp.ot.shape; exact ⟨a, l, c, h⟩
  obtain ⟨ak, lk, ck, rfl⟩ := hvk
  obtain ⟨av, lv, cv, rfl⟩ := hvt
  clear hp hb0 r0
  go_enter Try.func32, Try.ntmps32
  go_upto_region 1 with fail
  rw [← HW0.out, ← HRB.out]
  go_wp2_with fail
  go_step3
  go_wp2_with fail
  go_step3
  go_wp2_with fail
  go_loopw [1] (fun x wr => ∃ m : Nat, x = .int .i64 (m : Int) ∧ m ≤ 4294967297 ∧ Hid (Us ks ts n m) ∧ Hid (Below w0.heap.size w0 wr)) (fun x _ => 4294967298 - (intOf x).toNat)
  case atStart => exact ⟨n, rfl, hn, hid ⟨Nat.le_refl _, fun x h1 h2 => absurd h2 (by omega)⟩, Below.refl _ _⟩
  case round =>
    obtain ⟨m, rfl, hm, HU, HBW⟩ := hrel
    obtain ⟨c0, c1, c2, c3, c4⟩ := HP.out.cells wr HBW.out
    by_cases hmh : m ≤ hi
    · obtain ⟨gb, HGB⟩ : ∃ gb, Hid (gb = wr.heap.size) := ⟨_, rfl⟩
      obtain ⟨w1, HW1⟩ : ∃ w1, Hid (w1 = wr.alloc (.cells #[.int .i64 (m : Int), .int .i64 (hi : Int)] 64)) := ⟨_, rfl⟩
      have hb1 : Below w0.heap.size w0 w1 := by rw [HW1.out]; exact HBW.out.alloc HBW.out.size _
      have HB1 := hid hb1
      have R1 : Hid (w1.heap[gb]? = some (.cells #[.int .i64 (m : Int), .int .i64 (hi : Int)] 64 (0, 0))) := by rw [HW1.out, HGB.out]; exact heap_alloc_new wr _
      have hgb : w0.heap.size ≤ gb := by rw [HGB.out]; exact HBW.out.size
      clear c0 c1
      go_upto_region 3 with fail
      rw [← HW1.out, ← HGB.out]
      clear c2 c3 c4 HW1 HGB
      obtain ⟨c0, c1, c2, c3, c4⟩ := HP.out.cells w1 HB1.out
      go_still (by kernel_rfl)
      clear c0 c1 c2 c3 c4
      go_upto_region 4 with fail
      have HB2 : Hid (Below w0.heap.size w0 w1.drew) := ⟨hb1.os, hb1.tape, hb1.output, hb1.size, hb1.block⟩
      have R2 : Hid (w1.drew.heap[gb]? = some (.cells #[.int .i64 (m : Int), .int .i64 (hi : Int)] 64 (0, 0))) := R1.out
      go_loopw [34, 1] (fun x y wi => ∃ k b : Nat, x = .int .i64 (k : Int) ∧ k ≤ 2 ∧ y = .int .i64 (m : Int) ∧ b < 4294967296 ∧ Hid (Gp ks ts hi m b k) ∧ Hid (wi.heap[gb]? = some (.cells #[.int .i64 (m : Int), .int .i64 (b : Int)] 64 (0, 0))) ∧ Hid (Below w0.heap.size w0 wi)) (fun x _ _ => 2 - (intOf x).toNat)
      case atStart => exact ⟨0, hi, rfl, by omega, rfl, hh, hid ⟨hmh, Nat.le_refl _, fun h => absurd h (by omega), fun h => absurd h (by omega), .inl rfl⟩, R2, HB2⟩
      case round =>
        obtain ⟨k, b, rfl, hk, rfl, hb, HG, RG, HBI⟩ := hrel
        have e0 : wr.cell? ⟨gb, 0, none⟩ = some (.int .i64 (m : Int)) := by rw [cell_of_row _ _ _ _ _ _ RG.out]; rfl
        have e1 : wr.cell? ⟨gb, 1, none⟩ = some (.int .i64 (b : Int)) := by rw [cell_of_row _ _ _ _ _ _ RG.out]; rfl
        match k, hk with
        | 0, _ =>
          obtain ⟨a, ea⟩ : ∃ a, a = ak := ⟨_, rfl⟩
          obtain ⟨l, el⟩ : ∃ l, l = lk := ⟨_, rfl⟩
          obtain ⟨c, ec⟩ : ∃ c, c = ck := ⟨_, rfl⟩
          subst ea el ec
          have hix : ∀ u : World, (Instr.index 88 (.agg #[.slice a l c, .slice av lv cv]) (.int .i64 0)).run Try.prog u = .ok (.slice a l c) u := fun u => by kernel_rfl
          have HX := hid ((HP.out.below HBI.out).ok)
          have HS := hid (seek_any 0 (.slice a l c) ks m wr HP.out.rk HX.out (by have := HP.out.rk.len; omega))
          have hll : Hid (l = ks.length) ∧ l ≤ c ∧ c ≤ 9223372036854775807 := by
            obtain ⟨a', l', c', h, h1, h2, h3⟩ := HX.out.shape
            simp only [Value.slice.injEq] at h
            obtain ⟨-, rfl, rfl⟩ := h
            exact ⟨h1, h2, h3⟩
          obtain ⟨HL, hl1, hl2⟩ := hll
          go_upto_region 6 with fail
          go_wp2_with fail
          refine HS.out.mono ?_
          rintro _ w2 ⟨i, bb, rfl, hat, hmem, hb2⟩
          have HAT := hid hat
          have HMM := hid hmem
          have HB3 : Hid (Below w0.heap.size w0 w2) := HBI.out.trans (hb2.mono HBI.out.size)
          have RG2 : Hid (w2.heap[gb]? = some (.cells #[.int .i64 (m : Int), .int .i64 (b : Int)] 64 (0, 0))) := below_keeps hb2 RG.out (Array.getElem?_eq_some_iff.1 RG.out).1
          have HX2 := hid (HX.out.below hb2)
          have hil : i ≤ l := by have := hat.le; have := HL.out; omega
          clear hat hmem hb2 HS e0 e1
          cases bb with
          | true =>
            have hex : ∃ r, ks[i]? = some r ∧ r.1 ≤ m := (HAT.out.mem HP.out.rk).1 (HMM.out.1 rfl)
            obtain ⟨r, hr, hr1⟩ := hex
            obtain ⟨g, rfl, hg, hcell⟩ := HX2.out.at hr
            obtain ⟨d0, d1⟩ := hcell w2 rfl
            have hlt : i < ks.length := (List.getElem?_eq_some_iff.1 hr).1
            have hil2 : i < l := by have := HL.out; omega
            have hr2 : m ≤ r.2 := HAT.out.hi r (by
              rw [List.mem_iff_getElem]
              refine ⟨0, by simp; omega, ?_⟩
              have := (List.getElem?_eq_some_iff.1 hr).2
              simpa using this)
            have hr3 : r.2 < 4294967296 := (HP.out.rk.ok r (List.mem_of_getElem? hr)).2
            have HU2 : Hid (Us ks ts n (r.2 + 1)) := hid ⟨by have := HU.out.1; omega, fun x h1 h2 => by
              rcases Nat.lt_or_ge x m with h3 | h3
              · exact HU.out.2 x h1 h3
              · exact .inl ⟨r, List.mem_of_getElem? hr, by omega, by omega⟩⟩
            obtain ⟨p, q⟩ := r
            simp only at d0 d1 hr1 hr2 hr3 HU2
            clear hcell hg hr hlt
            go_wp2_with fail
            refine ⟨⟨q + 1, by simp, by omega, HU2, HB3⟩, ?_⟩
            simp [intOf]
            omega
          | false =>
            have HNM : Hid (¬ Mem ks m) := fun h => by have := HMM.out.2 h; cases this
            have HFT := hid (free_to HP.out.rk HAT.out HNM.out HG.out.mb)
            by_cases hil2 : i < l
            · have hlt : i < ks.length := by have := HL.out; omega
              obtain ⟨g, rfl, hg, hcell⟩ := HX2.out.at (List.getElem?_eq_getElem hlt)
              obtain ⟨d0, d1⟩ := hcell w2 rfl
              obtain ⟨h1, h2, h3⟩ := HFT.out.2 _ (List.getElem?_eq_getElem hlt)
              have hr3 := HP.out.rk.ok _ (List.getElem_mem hlt)
              generalize ks[i] = r at *
              obtain ⟨p, q⟩ := r
              simp only at d0 d1 h1 h2 h3 hr3
              have HG2 : Hid (Gp ks ts hi m (min b (p - 1)) 1) := hid ⟨by have := HG.out.mb; omega, by have := HG.out.bh; omega, fun _ x k1 k2 => h2 x k1 k2, fun hk2 x k1 k2 => absurd hk2 (by omega), by
                rcases h3 with h3 | h3
                · rw [h3]; exact HG.out.nx
                · exact .inr (.inl h3)⟩
              have e0 : w2.cell? ⟨gb, 0, none⟩ = some (.int .i64 (m : Int)) := by rw [cell_of_row _ _ _ _ _ _ RG2.out]; rfl
              have e1 : w2.cell? ⟨gb, 1, none⟩ = some (.int .i64 (b : Int)) := by rw [cell_of_row _ _ _ _ _ _ RG2.out]; rfl
              have f1 : w2.frozen? ⟨gb, 1, none⟩ = false := frozen_of_row _ _ _ _ _ RG2.out
              have hw1 : IntKind.i64.wrap ((p : Int) - 1) = (p : Int) - 1 := by rw [IntKind.wrap_i64]; omega
              obtain ⟨b', HBQ⟩ : ∃ b', Hid (b' = min b (p - 1)) := ⟨_, rfl⟩
              have hmin : (if (p : Int) - 1 < (b : Int) then (p : Int) - 1 else (b : Int)) = (b' : Int) := by rw [HBQ.out]; split <;> omega
              rw [← HBQ.out] at HG2
              have hb' : b' < 4294967296 := by have := HBQ.out; omega
              clear hcell hg h2 h3 hlt HFT HBQ
              go_upto_region 10 with fail
              refine wp_region_still_tail 10 (by kernel_rfl) (by kernel_rfl) ?_
              simp only [List.take_succ_cons, List.take_zero, List.drop_succ_cons, List.drop_zero]
              iterate 10 still_step
              refine wpStill_nil ?_
              have RG3 : Hid (((w2.setCell ⟨gb, 1, none⟩ (.int .i64 (b' : Int))).drew).heap[gb]? = some (.cells #[.int .i64 (m : Int), .int .i64 (b' : Int)] 64 (0, 0))) := by
                have h := set_cells (i := 1) (v := .int .i64 (b' : Int)) RG2.out
                exact h
              have HB4 : Hid (Below w0.heap.size w0 ((w2.setCell ⟨gb, 1, none⟩ (.int .i64 (b' : Int))).drew)) := by
                have h1 := HB3.out.setCell (p := ⟨gb, 1, none⟩) hgb (.int .i64 (b' : Int))
                exact ⟨h1.os, h1.tape, h1.output, h1.size, h1.block⟩
              clear hw1 d0 d1
              go_wp2_with fail
              go_roundw
              case rel => exact ⟨1, b', by go_num, by omega, rfl, hb', HG2, RG3, HB4⟩
              case measure => simp [intOf]
            · have hnone : ks[i]? = none := List.getElem?_eq_none_iff.2 (by have := HL.out; omega)
              have HG2 : Hid (Gp ks ts hi m b 1) := hid ⟨HG.out.mb, HG.out.bh, fun _ => HFT.out.1 hnone, fun hk2 => absurd hk2 (by omega), HG.out.nx⟩
              go_wp2_with fail
              go_roundw
              case rel => exact ⟨1, b, by go_num, by omega, rfl, hb, HG2, RG2, HB3⟩
              case measure => simp [intOf]
        | 1, _ =>
          obtain ⟨a, ea⟩ : ∃ a, a = av := ⟨_, rfl⟩
          obtain ⟨l, el⟩ : ∃ l, l = lv := ⟨_, rfl⟩
          obtain ⟨c, ec⟩ : ∃ c, c = cv := ⟨_, rfl⟩
          subst ea el ec
          have hix : ∀ u : World, (Instr.index 88 (.agg #[.slice ak lk ck, .slice a l c]) (.int .i64 1)).run Try.prog u = .ok (.slice a l c) u := fun u => by kernel_rfl
          have HX := hid ((HP.out.below HBI.out).ot)
          have HS := hid (seek_any 0 (.slice a l c) ts m wr HP.out.rt HX.out (by have := HP.out.rt.len; omega))
          have hll : Hid (l = ts.length) ∧ l ≤ c ∧ c ≤ 9223372036854775807 := by
            obtain ⟨a', l', c', h, h1, h2, h3⟩ := HX.out.shape
            simp only [Value.slice.injEq] at h
            obtain ⟨-, rfl, rfl⟩ := h
            exact ⟨h1, h2, h3⟩
          obtain ⟨HL, hl1, hl2⟩ := hll
          go_upto_region 6 with fail
          go_wp2_with fail
          refine HS.out.mono ?_
          rintro _ w2 ⟨i, bb, rfl, hat, hmem, hb2⟩
          have HAT := hid hat
          have HMM := hid hmem
          have HB3 : Hid (Below w0.heap.size w0 w2) := HBI.out.trans (hb2.mono HBI.out.size)
          have RG2 : Hid (w2.heap[gb]? = some (.cells #[.int .i64 (m : Int), .int .i64 (b : Int)] 64 (0, 0))) := below_keeps hb2 RG.out (Array.getElem?_eq_some_iff.1 RG.out).1
          have HX2 := hid (HX.out.below hb2)
          have hil : i ≤ l := by have := hat.le; have := HL.out; omega
          clear hat hmem hb2 HS e0 e1
          cases bb with
          | true =>
            have hex : ∃ r, ts[i]? = some r ∧ r.1 ≤ m := (HAT.out.mem HP.out.rt).1 (HMM.out.1 rfl)
            obtain ⟨r, hr, hr1⟩ := hex
            obtain ⟨g, rfl, hg, hcell⟩ := HX2.out.at hr
            obtain ⟨d0, d1⟩ := hcell w2 rfl
            have hlt : i < ts.length := (List.getElem?_eq_some_iff.1 hr).1
            have hil2 : i < l := by have := HL.out; omega
            have hr2 : m ≤ r.2 := HAT.out.hi r (by
              rw [List.mem_iff_getElem]
              refine ⟨0, by simp; omega, ?_⟩
              have := (List.getElem?_eq_some_iff.1 hr).2
              simpa using this)
            have hr3 : r.2 < 4294967296 := (HP.out.rt.ok r (List.mem_of_getElem? hr)).2
            have HU2 : Hid (Us ks ts n (r.2 + 1)) := hid ⟨by have := HU.out.1; omega, fun x h1 h2 => by
              rcases Nat.lt_or_ge x m with h3 | h3
              · exact HU.out.2 x h1 h3
              · exact .inr ⟨r, List.mem_of_getElem? hr, by omega, by omega⟩⟩
            obtain ⟨p, q⟩ := r
            simp only at d0 d1 hr1 hr2 hr3 HU2
            clear hcell hg hr hlt
            go_wp2_with fail
            refine ⟨⟨q + 1, by simp, by omega, HU2, HB3⟩, ?_⟩
            simp [intOf]
            omega
          | false =>
            have HNM : Hid (¬ Mem ts m) := fun h => by have := HMM.out.2 h; cases this
            have HFT := hid (free_to HP.out.rt HAT.out HNM.out HG.out.mb)
            by_cases hil2 : i < l
            · have hlt : i < ts.length := by have := HL.out; omega
              obtain ⟨g, rfl, hg, hcell⟩ := HX2.out.at (List.getElem?_eq_getElem hlt)
              obtain ⟨d0, d1⟩ := hcell w2 rfl
              obtain ⟨h1, h2, h3⟩ := HFT.out.2 _ (List.getElem?_eq_getElem hlt)
              have hr3 := HP.out.rt.ok _ (List.getElem_mem hlt)
              generalize ts[i] = r at *
              obtain ⟨p, q⟩ := r
              simp only at d0 d1 h1 h2 h3 hr3
              have HG2 : Hid (Gp ks ts hi m (min b (p - 1)) 2) := hid ⟨by have := HG.out.mb; omega, by have := HG.out.bh; omega, fun _ x k1 k2 => HG.out.fk (by omega) x k1 (by omega), fun hk2 x k1 k2 => h2 x k1 k2, by
                rcases h3 with h3 | h3
                · rw [h3]; exact HG.out.nx
                · exact .inr (.inr h3)⟩
              have e0 : w2.cell? ⟨gb, 0, none⟩ = some (.int .i64 (m : Int)) := by rw [cell_of_row _ _ _ _ _ _ RG2.out]; rfl
              have e1 : w2.cell? ⟨gb, 1, none⟩ = some (.int .i64 (b : Int)) := by rw [cell_of_row _ _ _ _ _ _ RG2.out]; rfl
              have f1 : w2.frozen? ⟨gb, 1, none⟩ = false := frozen_of_row _ _ _ _ _ RG2.out
              have hw1 : IntKind.i64.wrap ((p : Int) - 1) = (p : Int) - 1 := by rw [IntKind.wrap_i64]; omega
              obtain ⟨b', HBQ⟩ : ∃ b', Hid (b' = min b (p - 1)) := ⟨_, rfl⟩
              have hmin : (if (p : Int) - 1 < (b : Int) then (p : Int) - 1 else (b : Int)) = (b' : Int) := by rw [HBQ.out]; split <;> omega
              rw [← HBQ.out] at HG2
              have hb' : b' < 4294967296 := by have := HBQ.out; omega
              clear hcell hg h2 h3 hlt HFT HBQ
              go_upto_region 10 with fail
              refine wp_region_still_tail 10 (by kernel_rfl) (by kernel_rfl) ?_
              simp only [List.take_succ_cons, List.take_zero, List.drop_succ_cons, List.drop_zero]
              iterate 10 still_step
              refine wpStill_nil ?_
              have RG3 : Hid (((w2.setCell ⟨gb, 1, none⟩ (.int .i64 (b' : Int))).drew).heap[gb]? = some (.cells #[.int .i64 (m : Int), .int .i64 (b' : Int)] 64 (0, 0))) := by
                have h := set_cells (i := 1) (v := .int .i64 (b' : Int)) RG2.out
                exact h
              have HB4 : Hid (Below w0.heap.size w0 ((w2.setCell ⟨gb, 1, none⟩ (.int .i64 (b' : Int))).drew)) := by
                have h1 := HB3.out.setCell (p := ⟨gb, 1, none⟩) hgb (.int .i64 (b' : Int))
                exact ⟨h1.os, h1.tape, h1.output, h1.size, h1.block⟩
              clear hw1 d0 d1
              go_wp2_with fail
              go_roundw
              case rel => exact ⟨2, b', by go_num, by omega, rfl, hb', HG2, RG3, HB4⟩
              case measure => simp [intOf]
            · have hnone : ts[i]? = none := List.getElem?_eq_none_iff.2 (by have := HL.out; omega)
              have HG2 : Hid (Gp ks ts hi m b 2) := hid ⟨HG.out.mb, HG.out.bh, fun _ => HG.out.fk (by omega), fun hk2 => HFT.out.1 hnone, HG.out.nx⟩
              go_wp2_with fail
              go_roundw
              case rel => exact ⟨2, b, by go_num, by omega, rfl, hb, HG2, RG2, HB3⟩
              case measure => simp [intOf]
        | 2, _ =>
          have r2 : wr.heap[rb]? = some (.cells #[.int .i64 0, .int .i64 0] 64 (0, 0)) := by rw [HRB.out]; exact below_keeps HBI.out R0.out (by omega)
          have d0 : wr.cell? ⟨rb, 0, none⟩ = some (.int .i64 0) := by rw [cell_of_row _ _ _ _ _ _ r2]; rfl
          have d1 : wr.cell? ⟨rb, 1, none⟩ = some (.int .i64 0) := by rw [cell_of_row _ _ _ _ _ _ r2]; rfl
          have f0 : wr.frozen? ⟨rb, 0, none⟩ = false := frozen_of_row _ _ _ _ _ r2
          have f1 : wr.frozen? ⟨rb, 1, none⟩ = false := frozen_of_row _ _ _ _ _ r2
          have r4 := set_two (a := .int .i64 (m : Int)) (c := .int .i64 (b : Int)) r2
          have HB4 : Hid (Below w.heap.size w ((wr.setCell ⟨rb, 0, none⟩ (.int .i64 (m : Int))).setCell ⟨rb, 1, none⟩ (.int .i64 (b : Int)))) :=
            ((HB0.out.trans (HBI.out.mono HB0.out.size)).setCell (p := ⟨rb, 0, none⟩) (by rw [HRB.out]; exact Nat.le_refl _) _).setCell (p := ⟨rb, 1, none⟩) (by rw [HRB.out]; exact Nat.le_refl _) _
          have HF : Hid (NextF ks ts hi n (.returned (.tuple #[.agg #[.int .i64 (m : Int), .int .i64 (b : Int)], .bool true]))) := hid (.inl ⟨m, b, rfl, HU.out.1, HG.out.mb, HG.out.bh, HU.out.2, fun x h1 h2 => ⟨HG.out.fk (by omega) x h1 h2, HG.out.ft (by omega) x h1 h2⟩, HG.out.nx⟩)
          have R4 := hid r4
          clear r2 r4
          go_wp2_with fail
          generalize ((wr.setCell ⟨rb, 0, none⟩ (.int .i64 (m : Int))).setCell ⟨rb, 1, none⟩ (.int .i64 (b : Int))) = W at *
          have g0 : W.cell? ⟨rb, 0, none⟩ = some (.int .i64 (m : Int)) := by rw [cell_of_row _ _ _ _ _ _ R4.out]; rfl
          have g1 : W.cell? ⟨rb, 1, none⟩ = some (.int .i64 (b : Int)) := by rw [cell_of_row _ _ _ _ _ _ R4.out]; rfl
          try rw [Exit.noGoto_ret]
          refine bodyPost_ret (v := .tuple #[.agg #[.int .i64 (m : Int), .int .i64 (b : Int)], .bool true]) (by simp [results, Try.results32, go_sem, g0, g1]) rfl ⟨HF.out, HB4.out⟩
    · have r2 : wr.heap[rb]? = some (.cells #[.int .i64 0, .int .i64 0] 64 (0, 0)) := by rw [HRB.out]; exact below_keeps HBW.out R0.out (by omega)
      have d0 : wr.cell? ⟨rb, 0, none⟩ = some (.int .i64 0) := by rw [cell_of_row _ _ _ _ _ _ r2]; rfl
      have d1 : wr.cell? ⟨rb, 1, none⟩ = some (.int .i64 0) := by rw [cell_of_row _ _ _ _ _ _ r2]; rfl
      have f0 : wr.frozen? ⟨rb, 0, none⟩ = false := frozen_of_row _ _ _ _ _ r2
      have f1 : wr.frozen? ⟨rb, 1, none⟩ = false := frozen_of_row _ _ _ _ _ r2
      have R4 := hid (set_two (a := .int .i64 0) (c := .int .i64 0) r2)
      have HB4 : Hid (Below w.heap.size w ((wr.setCell ⟨rb, 0, none⟩ (.int .i64 0)).setCell ⟨rb, 1, none⟩ (.int .i64 0))) :=
        ((HB0.out.trans (HBW.out.mono HB0.out.size)).setCell (p := ⟨rb, 0, none⟩) (by rw [HRB.out]; exact Nat.le_refl _) _).setCell (p := ⟨rb, 1, none⟩) (by rw [HRB.out]; exact Nat.le_refl _) _
      have HF : Hid (NextF ks ts hi n (.returned (.tuple #[.agg #[.int .i64 0, .int .i64 0], .bool false]))) := hid (.inr ⟨rfl, fun x h1 h2 => HU.out.2 x h1 (by omega)⟩)
      clear r2
      go_wp2_with fail
      generalize ((wr.setCell ⟨rb, 0, none⟩ (.int .i64 0)).setCell ⟨rb, 1, none⟩ (.int .i64 0)) = W at *
      have g0 : W.cell? ⟨rb, 0, none⟩ = some (.int .i64 0) := by rw [cell_of_row _ _ _ _ _ _ R4.out]; rfl
      have g1 : W.cell? ⟨rb, 1, none⟩ = some (.int .i64 0) := by rw [cell_of_row _ _ _ _ _ _ R4.out]; rfl
      try rw [Exit.noGoto_ret]
      refine bodyPost_ret (v := .tuple #[.agg #[.int .i64 0, .int .i64 0], .bool false]) (by simp [results, Try.results32, go_sem, g0, g1]) rfl ⟨HF.out, HB4.out⟩
end Go.Proofs.Ytahoileampdnkaa
