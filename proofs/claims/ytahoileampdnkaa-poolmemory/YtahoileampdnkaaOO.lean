/-
  (*runs).add.
-/
import Derived.Test.YtahoileampdnkaaOL
namespace Go.Proofs.Ytahoileampdnkaa
open Go.ChangeShapes Go.WideShapes Go.ChangeAt Go.RowKit Ru N
set_option maxHeartbeats 4000000
set_option maxRecDepth 100000

theorem OwnR.at' {w : World} {B n cap g : Nat} {rs : List R} (h : OwnR w B (.slice (some ⟨g, 0, none⟩) n cap) rs) {i : Nat} {r : R} (hi : rs[i]? = some r) : g < w.heap.size ∧ ∀ u : World, u.heap[g]? = w.heap[g]? → u.cell? ⟨g, i * 2, none⟩ = some (.int .i64 (r.1 : Int)) ∧ u.cell? ⟨g, i * 2 + 1, none⟩ = some (.int .i64 (r.2 : Int)) := by
  obtain ⟨g', h0, h1, h2⟩ := h.at hi
  simp only [Option.some.injEq, Addr.mk.injEq, and_true] at h0
  subst h0
  exact ⟨h1, h2⟩

/-- What add leaves. -/
def Added (pb off : Nat) (cs : Array Value) (v : Value) (rs : List R) (n : Nat) (w w' : World) : Prop :=
  ∃ v' rs', Runs rs' ∧ (∀ m, Mem rs' m ↔ m = n ∨ Mem rs m) ∧ rs'.length ≤ rs.length + 1 ∧ OwnR w' 0 v' rs' ∧ w'.heap[pb]? = some (.cells (cs.setIfInBounds off v') 68 (0, 0)) ∧ NewBlk v v' w.heap.size ∧ Keeps (fun k => k = pb ∨ v.ownBlock = some k) w w'

/-- The end of add: the new row is laid down. -/
theorem added_of {pb off n : Nat} {cs : Array Value} {v v' : Value} {rs A B la lb : List R} {p q f b m : Nat} {w u u' : World} (hu : Below w.heap.size w u) (hp : w.heap[pb]? = some (.cells cs 68 (0, 0))) (hv : OwnR w 0 v rs) (hrs : rs = A ++ la ++ (lb ++ B)) (hr : Runs rs) (hn : n < 4294967296)
    (h1 : ∀ r ∈ A ++ la, r.2 < n) (h2 : ∀ r ∈ lb ++ B, n < r.1) (ha : (la = [] ∧ p = n ∧ ∀ r ∈ A, r.2 + 1 ≠ n) ∨ ∃ l : R, la = [l] ∧ p = l.1 ∧ l.2 + 1 = n) (hb : (lb = [] ∧ q = n ∧ ∀ r ∈ B, r.1 ≠ n + 1) ∨ ∃ l : R, lb = [l] ∧ q = l.2 ∧ l.1 = n + 1)
    (hf : A.length = f) (hbb : A.length + la.length + lb.length = b) (hm : m = f + 1 + (rs.length - b)) (hrow : Row u' 0 v' m ((rc rs).take (f * 2) ++ [.int .i64 (p : Int), .int .i64 (q : Int)] ++ (rc rs).drop (b * 2))) (hg : u.grownBy u' v.ownBlock) (hnb : NewBlk v v' u.heap.size) :
    Added pb off cs v rs n w (u'.setCell ⟨pb, off, none⟩ v') := by
  have hll : rs.length = A.length + la.length + lb.length + B.length := by rw [hrs]; simp; omega
  have e1 : rs.take f = A := by rw [hrs, ← hf, List.append_assoc]; exact List.take_left
  have e2 : rs.drop b = B := by
    rw [hrs, ← hbb, ← List.append_assoc, show A.length + la.length + lb.length = (A ++ la ++ lb).length by simp; omega]; exact List.drop_left
  obtain ⟨hR, hM⟩ := add_runs (by rw [← hrs]; exact hr) hn h1 h2 ha hb
  have hvb : ∀ g, v.ownBlock = some g → g < w.heap.size ∧ g ≠ pb := by
    intro g hgv
    rcases hv.2 with ⟨rfl, _⟩ | ⟨g', cap, cur, rfl, _, hgg, _⟩
    · cases hgv
    · simp [Value.ownBlock] at hgv
      subst hgv
      refine ⟨(Array.getElem?_eq_some_iff.1 hgg).1, fun e => ?_⟩
      rw [e, hp] at hgg
      simp at hgg
  have hpl := (Array.getElem?_eq_some_iff.1 hp).1
  have hpu : u'.heap[pb]? = some (.cells cs 68 (0, 0)) := by
    rw [hg.block pb (Nat.lt_of_lt_of_le hpl hu.size) (fun e => (hvb pb e.symm).2 rfl), hu.block pb hpl]; exact hp
  have hvp : ∀ g, v'.ownBlock = some g → g ≠ pb := by
    intro g hgv
    rcases hnb with h | ⟨g', h, h'⟩
    · rw [hgv] at h; exact (hvb g h.symm).2
    · rw [hgv] at h; simp at h; subst h; have := hu.size; omega
  refine ⟨v', A ++ (p, q) :: B, hR, fun m => by rw [hM m, hrs], ?_, ?_, set_cells hpu, ?_, ?_⟩
  · rw [hrs]; simp; omega
  · have hr2 : Row u' 0 v' (A ++ (p, q) :: B).length (rc (A ++ (p, q) :: B)) := by
      rw [rc_take rs f (by omega), rc_drop rs b (by omega), e1, e2] at hrow
      rw [rc_append, rc_cons]
      rw [show (A ++ (p, q) :: B).length = m by simp; omega]
      simpa [rv] using hrow
    have hk : Keeps (fun k => k = pb) u' (u'.setCell ⟨pb, off, none⟩ v') := Keeps.set (S := fun k => k = pb) (Keeps.refl _ _) ⟨pb, off, none⟩ rfl v'
    exact OwnR.keeps (S := fun k => k = pb) (h := hr2) hk (fun k hk e => hvp k hk e)
  · rcases hnb with h | ⟨g', h, h'⟩
    · exact .inl h
    · exact .inr ⟨g', h, Nat.le_trans hu.size h'⟩
  · refine Keeps.set ?_ ⟨pb, off, none⟩ (.inl rfl) v'
    exact (Keeps.of hu).trans (Keeps.grown hg fun k hk => .inr hk)

theorem add_any (pb off n : Nat) (cs : Array Value) (v : Value) (rs : List R) (w : World) (hp : w.heap[pb]? = some (.cells cs 68 (0, 0))) (hoff : cs[off]? = some v) (hv : OwnR w 0 v rs) (hr : Runs rs) (hn : n < 4294967296) (hl : rs.length ≤ 4294967296) :
    Calls Try.prog 31 #[.pointer (some ⟨pb, off, none⟩), .int .i64 (n : Int)] w fun e w' => (e = .returned (.bool false) ∧ Mem rs n ∧ Below w.heap.size w w') ∨ (e = .returned (.bool true) ∧ ¬ Mem rs n ∧ Added pb off cs v rs n w w') := by
  have HC := hid (seek_any 0 v rs n w hr hv (by omega))
  obtain ⟨a, len, cap, rfl, HL, hc1, hc2⟩ := hv.shape
  have hlen : len ≤ 4294967296 := by rw [HL.out]; exact hl
  have HV := hid hv
  have HR := hid hr
  have HP := hid hp
  have HO := hid hoff
  have c0 : w.cell? ⟨pb, off, none⟩ = some (.slice a len cap) := by rw [cell_of_row _ _ _ _ _ _ hp]; exact hoff
  have hpl := (Array.getElem?_eq_some_iff.1 hp).1
  clear hv hr hp hoff hl
  go_enter Try.func31, Try.ntmps31
  go_upto_region 2 with fail
  clear c0
  go_wp2_with fail
  refine HC.out.mono ?_
  rintro _ w1 ⟨i, b, rfl, hat, hmem, hb1⟩
  have HAT := hid hat
  have HM := hid hmem
  have HB1 := hid hb1
  have hil : i ≤ len := by have := hat.le; have := HL.out; omega
  clear hat hmem hb1 HC
  cases b with
  | true =>
    go_wp2_with fail
    go_ret
    exact .inl ⟨rfl, HM.out.1 trivial, HB1.out⟩
  | false =>
    have HNM : Hid (¬ Mem rs n) := fun h => by have := HM.out.2 h; cases this
    clear HM
    obtain ⟨jb, HJB⟩ : ∃ jb, Hid (jb = w1.heap.size) := ⟨_, rfl⟩
    obtain ⟨w2, HW2⟩ : ∃ w2, Hid (w2 = w1.alloc (.cells #[.int .i64 (n : Int), .int .i64 (n : Int)] 64)) := ⟨_, rfl⟩
    have HA2 : Hid (Ad w1 jb n n w2) := by
      rw [HW2.out]
      exact ⟨by rw [HJB.out]; exact Nat.le_refl _, (Below.refl _ _).alloc (Nat.le_refl _) _, by rw [HJB.out]; exact heap_alloc_new w1 _⟩
    go_upto_region 6 with fail
    rw [← HW2.out, ← HJB.out]
    clear HW2

    have HBA : Hid (∀ r ∈ rs.drop i, n < r.1) := fun r hr => by
      have h1 := HAT.out.hi r hr
      rcases Nat.lt_or_ge n r.1 with h | h
      · exact h
      · exact absurd ⟨r, List.mem_of_mem_drop hr, h, h1⟩ HNM.out
    have HBH : Hid (∀ h : i < rs.length, n < rs[i].1) := fun h => HBA.out _ (by rw [List.mem_iff_getElem]; exact ⟨0, by simp; omega, by simp⟩)
    by_cases hi0 : 0 < i
    · obtain ⟨j, rfl⟩ : ∃ j, i = j + 1 := ⟨i - 1, by omega⟩
      have hlt0 : j < rs.length := by have := HAT.out.le; omega
      obtain ⟨g, rfl, hg, hcell⟩ := HV.out.at (i := j) (List.getElem?_eq_getElem hlt0)
      obtain ⟨c0, c1⟩ := hcell w2 (((HA2.out.be.block g (by have := HB1.out.size; omega)).trans (HB1.out.block g hg)))
      have HLT : Hid (rs[j].2 < n) := hid (HAT.out.lo _ (by rw [List.mem_iff_getElem]; exact ⟨j, by simp; omega, by simp⟩))
      have hn1 : 1 ≤ n := by have := HLT.out; omega
      clear hcell hg hi0
      by_cases hat : rs[j].2 + 1 = n
      · obtain ⟨p, HPP⟩ : ∃ p, Hid (p = rs[j].1) := ⟨_, hid rfl⟩
        rw [← HPP.out] at c0
        have HLA : Hid (([rs[j]] = [] ∧ p = n ∧ ∀ r ∈ rs.take j, r.2 + 1 ≠ n) ∨ ∃ l : R, [rs[j]] = [l] ∧ p = l.1 ∧ l.2 + 1 = n) := hid (.inr ⟨rs[j], rfl, HPP.out, hat⟩)
        have HSL : Hid (rs = rs.take j ++ [rs[j]] ++ rs.drop (j + 1)) := by
          unfold Hid
          rw [List.append_assoc]
          have e : rs.drop j = [rs[j]] ++ rs.drop (j + 1) := List.drop_eq_getElem_cons hlt0
          rw [← e, List.take_append_drop]
        have HLO : Hid (∀ r ∈ rs.take j ++ [rs[j]], r.2 < n) := hid fun r hr => HAT.out.lo r (by rw [List.take_succ_eq_append_getElem hlt0]; exact hr)
        have hx1 : ((rs[j].2 : Nat) : Int) = (n : Int) - 1 := by omega
        rw [hx1] at c1
        obtain ⟨e0, e1, e2, e3⟩ := HA2.out.cells
        clear hx1
        go_upto_region 9 with fail
        obtain ⟨w3, HW3⟩ : ∃ w3, Hid (w3 = w2.setCell ⟨jb, 0, none⟩ (.int .i64 (p : Int))) := ⟨_, rfl⟩
        have HA3 : Hid (Ad w1 jb p n w3) := by rw [HW3.out]; exact HA2.out.set0 p
        rw [← HW3.out]
        clear HW3 c0 c1 e0 e1 e2 e3
        by_cases hi2 : j + 1 < len
        · by_cases hbt : (rs[j + 1]'(by have := HL.out; omega)).1 = n + 1
          · have hzz := hi2
            have hlt : j + 1 < rs.length := by have := HL.out; omega
            obtain ⟨hg, hcell⟩ := HV.out.at' (i := j + 1) (List.getElem?_eq_getElem hlt)
            obtain ⟨c0, c1⟩ := hcell w3 (((HA3.out.be.block g (by have := HB1.out.size; omega)).trans (HB1.out.block g hg)))
            obtain ⟨q, HQ⟩ : ∃ q, Hid (q = rs[j + 1].2) := ⟨_, hid rfl⟩
            rw [← HQ.out] at c1
            have HLB : Hid (([rs[j + 1]] = [] ∧ q = n ∧ ∀ r ∈ rs.drop (j + 1 + 1), r.1 ≠ n + 1) ∨ ∃ l : R, [rs[j + 1]] = [l] ∧ q = l.2 ∧ l.1 = n + 1) := hid (.inr ⟨rs[j + 1], rfl, HQ.out, hbt⟩)
            have HSPL : Hid (rs = rs.take (j) ++ [rs[j]] ++ ([rs[j + 1]] ++ rs.drop (j + 1 + 1))) := by
              unfold Hid
              have e : rs.drop (j + 1) = [rs[j + 1]] ++ rs.drop (j + 1 + 1) := List.drop_eq_getElem_cons hlt
              rw [← e]; exact HSL.out
            have HHI : Hid (∀ r ∈ [rs[j + 1]] ++ rs.drop (j + 1 + 1), n < r.1) := hid fun r hr => by
              have e : rs.drop (j + 1) = [rs[j + 1]] ++ rs.drop (j + 1 + 1) := List.drop_eq_getElem_cons hlt
              rw [← e] at hr; exact HBA.out r hr
            have hx1 : ((rs[j + 1].1 : Nat) : Int) = (n : Int) + 1 := by omega
            rw [hx1] at c0
            obtain ⟨e0, e1, e2, e3⟩ := HA3.out.cells
            clear hcell hg hx1
            go_upto_region 12 with fail
            obtain ⟨w4, HW4⟩ : ∃ w4, Hid (w4 = w3.setCell ⟨jb, 1, none⟩ (.int .i64 (q : Int))) := ⟨_, rfl⟩
            have HA4 : Hid (Ad w1 jb (p) q w4) := by rw [HW4.out]; exact HA3.out.set1 q
            rw [← HW4.out]
            clear HW4 c0 c1 e0 e1 e2 e3
            obtain ⟨k0, k1, k2, k3⟩ := HA4.out.cells
            have HF0 : Hid (∀ (v'' : Value) (u' : World), Row u' 0 v'' (j + 1 + (len - (j + 1 + 1))) ((rc rs).take ((j) * 2) ++ [.int .i64 (p : Int), .int .i64 (q : Int)] ++ (rc rs).drop ((j + 1 + 1) * 2)) → (w4.alloc (.cells #[.int .i64 (p : Int), .int .i64 (q : Int)] 64)).grownBy u' (Value.ownBlock (.slice (some ⟨g, 0, none⟩) len cap)) → NewBlk (.slice (some ⟨g, 0, none⟩) len cap) v'' (w4.alloc (.cells #[.int .i64 (p : Int), .int .i64 (q : Int)] 64)).heap.size → Added pb off cs (.slice (some ⟨g, 0, none⟩) len cap) rs n w (u'.setCell ⟨pb, off, none⟩ v'')) := fun v'' u' hrow hg hnb =>
              added_of (A := rs.take (j)) (B := rs.drop (j + 1 + 1)) (la := [rs[j]]) (lb := [rs[j + 1]]) (p := p) (q := q) (f := j) (b := j + 1 + 1) (m := j + 1 + (len - (j + 1 + 1)))
                ((HB1.out.trans (HA4.out.be.mono HB1.out.size)).alloc (Nat.le_trans HB1.out.size HA4.out.be.size) _) HP.out HV.out HSPL.out HR.out hn HLO.out HHI.out HLA.out HLB.out (by rw [List.length_take]; have := HL.out; omega) (by rw [List.length_take]; have := HL.out; simp; try omega) (by rw [HL.out]) hrow hg hnb
            have HROW : Hid (Row (w4.alloc (.cells #[.int .i64 (p : Int), .int .i64 (q : Int)] 64)) 0 (.slice (some ⟨g, 0, none⟩) len cap) rs.length (rc rs)) := hid (World.ownsRow.alloc ((HV.out.below HB1.out).below HA4.out.be) _)
            have HV1 : Hid (Row (w4.alloc (.cells #[.int .i64 (p : Int), .int .i64 (q : Int)] 64)) 0 (.slice (some ⟨w4.heap.size, 0, none⟩) 1 1) 1 [.int .i64 (p : Int), .int .i64 (q : Int)]) :=
              World.ownsRow_lit w4 #[.int .i64 (p : Int), .int .i64 (q : Int)] 1 (Nat.zero_le _) (by decide) rfl
            have HREP := hid (replace_any 0 rs.length 1 (j) (j + 1 + 1) (.slice (some ⟨g, 0, none⟩) len cap) (.slice (some ⟨w4.heap.size, 0, none⟩) 1 1) (rc rs) [.int .i64 (p : Int), .int .i64 (q : Int)] _ HROW.out HV1.out (rc_one rs) (fun u hu => by simp at hu; rcases hu with rfl | rfl <;> rfl) (fun h => by cases h) (.inr (fun e => by
              have hlt := (World.ownsRow.lt ((HV.out.below HB1.out).below HA4.out.be) _ e.symm).2
              exact Nat.lt_irrefl _ hlt)) (by omega) (by have := HL.out; omega) (by have := HL.out; omega) (Nat.zero_le _))
            rw [← HL.out] at HREP
            clear HROW HV1
            go_wp2_with fail
            refine HREP.out.mono ?_
            rintro _ w5 ⟨v5, rfl, hrow, hg, hnb⟩
            have HADD := hid (HF0.out v5 w5 hrow hg hnb)
            obtain ⟨g5, cap5, cur5, rfl, -⟩ := Row.at hrow (by omega)
            generalize j + 1 + (len - (j + 1 + 1)) = m5 at hrow HADD ⊢
            have hp5 : w5.heap[pb]? = some (.cells cs 68 (0, 0)) := by
              have hx : (Value.ownBlock (.slice (some ⟨g, 0, none⟩) len cap)) ≠ some pb := fun e => by
                rcases HV.out.2 with ⟨h, _⟩ | ⟨g', cap', cur', h, _, hgg, _⟩
                · rw [h] at e; cases e
                · rw [h] at e
                  simp [Value.ownBlock] at e
                  rw [e, HP.out] at hgg
                  simp at hgg
              have hbw := HB1.out.trans (HA4.out.be.mono HB1.out.size)
              rw [hg.block pb (by simp; have := hbw.size; omega) (fun e => hx e.symm), heap_alloc_old _ _ (by have := hbw.size; omega), hbw.block pb hpl]
              exact HP.out
            have d0 : w5.cell? ⟨pb, off, none⟩ = some (.slice (some ⟨g, 0, none⟩) len cap) := by rw [cell_of_row _ _ _ _ _ _ hp5]; exact HO.out
            have d1 : w5.frozen? ⟨pb, off, none⟩ = false := frozen_of_row _ _ _ _ _ hp5
            clear hrow hg hnb hp5 k0 k1 k2 k3
            go_wp2_with fail
            go_ret
            exact .inr ⟨rfl, HNM.out, HADD.out⟩
          · have hzz := hi2
            have hlt : j + 1 < rs.length := by have := HL.out; omega
            obtain ⟨hg, hcell⟩ := HV.out.at' (i := j + 1) (List.getElem?_eq_getElem hlt)
            obtain ⟨c0, c1⟩ := hcell w3 (((HA3.out.be.block g (by have := HB1.out.size; omega)).trans (HB1.out.block g hg)))
            have HN1 : Hid (n < rs[j + 1].1) := HBH.out hlt
            have HLB : Hid ((([] : List R) = [] ∧ n = n ∧ ∀ r ∈ rs.drop (j + 1), r.1 ≠ n + 1) ∨ ∃ l : R, ([] : List R) = [l] ∧ n = l.2 ∧ l.1 = n + 1) := .inl ⟨rfl, rfl, fun r hr => by
              obtain ⟨t, ht, rfl⟩ := List.getElem_of_mem hr
              rw [List.getElem_drop]
              rcases Nat.eq_zero_or_pos t with h0 | h0
              · subst h0; exact hbt
              · have h1 := List.pairwise_iff_getElem.1 HR.out.up (j + 1) (j + 1 + t) hlt (by simp at ht; omega) (by omega)
                have h2 := (HR.out.ok rs[j + 1] (List.getElem_mem hlt)).1
                have := HN1.out
                unfold Apart at h1
                omega⟩
            have HSPL : Hid (rs = rs.take (j) ++ [rs[j]] ++ ([] ++ rs.drop (j + 1))) := by unfold Hid; rw [List.nil_append]; exact HSL.out
            have HHI : Hid (∀ r ∈ ([] : List R) ++ rs.drop (j + 1), n < r.1) := fun r hr => by rw [List.nil_append] at hr; exact HBA.out r hr
            have hb1 : ((rs[j + 1].1 : Nat) : Int) ≠ (n : Int) + 1 := by omega
            generalize rs[j + 1].1 = x1 at c0 hb1
            generalize rs[j + 1].2 = x2 at c1
            clear hcell hg
            obtain ⟨k0, k1, k2, k3⟩ := HA3.out.cells
            have HF0 : Hid (∀ (v'' : Value) (u' : World), Row u' 0 v'' (j + 1 + (len - (j + 1))) ((rc rs).take ((j) * 2) ++ [.int .i64 (p : Int), .int .i64 (n : Int)] ++ (rc rs).drop ((j + 1) * 2)) → (w3.alloc (.cells #[.int .i64 (p : Int), .int .i64 (n : Int)] 64)).grownBy u' (Value.ownBlock (.slice (some ⟨g, 0, none⟩) len cap)) → NewBlk (.slice (some ⟨g, 0, none⟩) len cap) v'' (w3.alloc (.cells #[.int .i64 (p : Int), .int .i64 (n : Int)] 64)).heap.size → Added pb off cs (.slice (some ⟨g, 0, none⟩) len cap) rs n w (u'.setCell ⟨pb, off, none⟩ v'')) := fun v'' u' hrow hg hnb =>
              added_of (A := rs.take (j)) (B := rs.drop (j + 1)) (la := [rs[j]]) (lb := []) (p := p) (q := n) (f := j) (b := j + 1) (m := j + 1 + (len - (j + 1)))
                ((HB1.out.trans (HA3.out.be.mono HB1.out.size)).alloc (Nat.le_trans HB1.out.size HA3.out.be.size) _) HP.out HV.out HSPL.out HR.out hn HLO.out HHI.out HLA.out HLB.out (by rw [List.length_take]; have := HL.out; omega) (by rw [List.length_take]; have := HL.out; simp; try omega) (by rw [HL.out]) hrow hg hnb
            have HROW : Hid (Row (w3.alloc (.cells #[.int .i64 (p : Int), .int .i64 (n : Int)] 64)) 0 (.slice (some ⟨g, 0, none⟩) len cap) rs.length (rc rs)) := hid (World.ownsRow.alloc ((HV.out.below HB1.out).below HA3.out.be) _)
            have HV1 : Hid (Row (w3.alloc (.cells #[.int .i64 (p : Int), .int .i64 (n : Int)] 64)) 0 (.slice (some ⟨w3.heap.size, 0, none⟩) 1 1) 1 [.int .i64 (p : Int), .int .i64 (n : Int)]) :=
              World.ownsRow_lit w3 #[.int .i64 (p : Int), .int .i64 (n : Int)] 1 (Nat.zero_le _) (by decide) rfl
            have HREP := hid (replace_any 0 rs.length 1 (j) (j + 1) (.slice (some ⟨g, 0, none⟩) len cap) (.slice (some ⟨w3.heap.size, 0, none⟩) 1 1) (rc rs) [.int .i64 (p : Int), .int .i64 (n : Int)] _ HROW.out HV1.out (rc_one rs) (fun u hu => by simp at hu; rcases hu with rfl | rfl <;> rfl) (fun h => by cases h) (.inr (fun e => by
              have hlt := (World.ownsRow.lt ((HV.out.below HB1.out).below HA3.out.be) _ e.symm).2
              exact Nat.lt_irrefl _ hlt)) (by omega) (by have := HL.out; omega) (by have := HL.out; omega) (Nat.zero_le _))
            rw [← HL.out] at HREP
            clear HROW HV1
            go_wp2_with fail
            refine HREP.out.mono ?_
            rintro _ w5 ⟨v5, rfl, hrow, hg, hnb⟩
            have HADD := hid (HF0.out v5 w5 hrow hg hnb)
            obtain ⟨g5, cap5, cur5, rfl, -⟩ := Row.at hrow (by omega)
            generalize j + 1 + (len - (j + 1)) = m5 at hrow HADD ⊢
            have hp5 : w5.heap[pb]? = some (.cells cs 68 (0, 0)) := by
              have hx : (Value.ownBlock (.slice (some ⟨g, 0, none⟩) len cap)) ≠ some pb := fun e => by
                rcases HV.out.2 with ⟨h, _⟩ | ⟨g', cap', cur', h, _, hgg, _⟩
                · rw [h] at e; cases e
                · rw [h] at e
                  simp [Value.ownBlock] at e
                  rw [e, HP.out] at hgg
                  simp at hgg
              have hbw := HB1.out.trans (HA3.out.be.mono HB1.out.size)
              rw [hg.block pb (by simp; have := hbw.size; omega) (fun e => hx e.symm), heap_alloc_old _ _ (by have := hbw.size; omega), hbw.block pb hpl]
              exact HP.out
            have d0 : w5.cell? ⟨pb, off, none⟩ = some (.slice (some ⟨g, 0, none⟩) len cap) := by rw [cell_of_row _ _ _ _ _ _ hp5]; exact HO.out
            have d1 : w5.frozen? ⟨pb, off, none⟩ = false := frozen_of_row _ _ _ _ _ hp5
            clear hrow hg hnb hp5 k0 k1 k2 k3
            go_wp2_with fail
            go_ret
            exact .inr ⟨rfl, HNM.out, HADD.out⟩
        · have hzz := hi2
          have hb0 : ¬ (j + 1 < len) := by omega
          have HLB : Hid ((([] : List R) = [] ∧ n = n ∧ ∀ r ∈ rs.drop (j + 1), r.1 ≠ n + 1) ∨ ∃ l : R, ([] : List R) = [l] ∧ n = l.2 ∧ l.1 = n + 1) := .inl ⟨rfl, rfl, fun r hr => by rw [List.drop_of_length_le (by have := HL.out; omega)] at hr; cases hr⟩
          have HSPL : Hid (rs = rs.take (j) ++ [rs[j]] ++ ([] ++ rs.drop (j + 1))) := by unfold Hid; rw [List.nil_append]; exact HSL.out
          have HHI : Hid (∀ r ∈ ([] : List R) ++ rs.drop (j + 1), n < r.1) := fun r hr => by rw [List.nil_append, List.drop_of_length_le (by have := HL.out; omega)] at hr; cases hr
          obtain ⟨k0, k1, k2, k3⟩ := HA3.out.cells
          have HF0 : Hid (∀ (v'' : Value) (u' : World), Row u' 0 v'' (j + 1 + (len - (j + 1))) ((rc rs).take ((j) * 2) ++ [.int .i64 (p : Int), .int .i64 (n : Int)] ++ (rc rs).drop ((j + 1) * 2)) → (w3.alloc (.cells #[.int .i64 (p : Int), .int .i64 (n : Int)] 64)).grownBy u' (Value.ownBlock (.slice (some ⟨g, 0, none⟩) len cap)) → NewBlk (.slice (some ⟨g, 0, none⟩) len cap) v'' (w3.alloc (.cells #[.int .i64 (p : Int), .int .i64 (n : Int)] 64)).heap.size → Added pb off cs (.slice (some ⟨g, 0, none⟩) len cap) rs n w (u'.setCell ⟨pb, off, none⟩ v'')) := fun v'' u' hrow hg hnb =>
            added_of (A := rs.take (j)) (B := rs.drop (j + 1)) (la := [rs[j]]) (lb := []) (p := p) (q := n) (f := j) (b := j + 1) (m := j + 1 + (len - (j + 1)))
              ((HB1.out.trans (HA3.out.be.mono HB1.out.size)).alloc (Nat.le_trans HB1.out.size HA3.out.be.size) _) HP.out HV.out HSPL.out HR.out hn HLO.out HHI.out HLA.out HLB.out (by rw [List.length_take]; have := HL.out; omega) (by rw [List.length_take]; have := HL.out; simp; try omega) (by rw [HL.out]) hrow hg hnb
          have HROW : Hid (Row (w3.alloc (.cells #[.int .i64 (p : Int), .int .i64 (n : Int)] 64)) 0 (.slice (some ⟨g, 0, none⟩) len cap) rs.length (rc rs)) := hid (World.ownsRow.alloc ((HV.out.below HB1.out).below HA3.out.be) _)
          have HV1 : Hid (Row (w3.alloc (.cells #[.int .i64 (p : Int), .int .i64 (n : Int)] 64)) 0 (.slice (some ⟨w3.heap.size, 0, none⟩) 1 1) 1 [.int .i64 (p : Int), .int .i64 (n : Int)]) :=
            World.ownsRow_lit w3 #[.int .i64 (p : Int), .int .i64 (n : Int)] 1 (Nat.zero_le _) (by decide) rfl
          have HREP := hid (replace_any 0 rs.length 1 (j) (j + 1) (.slice (some ⟨g, 0, none⟩) len cap) (.slice (some ⟨w3.heap.size, 0, none⟩) 1 1) (rc rs) [.int .i64 (p : Int), .int .i64 (n : Int)] _ HROW.out HV1.out (rc_one rs) (fun u hu => by simp at hu; rcases hu with rfl | rfl <;> rfl) (fun h => by cases h) (.inr (fun e => by
            have hlt := (World.ownsRow.lt ((HV.out.below HB1.out).below HA3.out.be) _ e.symm).2
            exact Nat.lt_irrefl _ hlt)) (by omega) (by have := HL.out; omega) (by have := HL.out; omega) (Nat.zero_le _))
          rw [← HL.out] at HREP
          clear HROW HV1
          go_wp2_with fail
          refine HREP.out.mono ?_
          rintro _ w5 ⟨v5, rfl, hrow, hg, hnb⟩
          have HADD := hid (HF0.out v5 w5 hrow hg hnb)
          obtain ⟨g5, cap5, cur5, rfl, -⟩ := Row.at hrow (by omega)
          generalize j + 1 + (len - (j + 1)) = m5 at hrow HADD ⊢
          have hp5 : w5.heap[pb]? = some (.cells cs 68 (0, 0)) := by
            have hx : (Value.ownBlock (.slice (some ⟨g, 0, none⟩) len cap)) ≠ some pb := fun e => by
              rcases HV.out.2 with ⟨h, _⟩ | ⟨g', cap', cur', h, _, hgg, _⟩
              · rw [h] at e; cases e
              · rw [h] at e
                simp [Value.ownBlock] at e
                rw [e, HP.out] at hgg
                simp at hgg
            have hbw := HB1.out.trans (HA3.out.be.mono HB1.out.size)
            rw [hg.block pb (by simp; have := hbw.size; omega) (fun e => hx e.symm), heap_alloc_old _ _ (by have := hbw.size; omega), hbw.block pb hpl]
            exact HP.out
          have d0 : w5.cell? ⟨pb, off, none⟩ = some (.slice (some ⟨g, 0, none⟩) len cap) := by rw [cell_of_row _ _ _ _ _ _ hp5]; exact HO.out
          have d1 : w5.frozen? ⟨pb, off, none⟩ = false := frozen_of_row _ _ _ _ _ hp5
          clear hrow hg hnb hp5 k0 k1 k2 k3
          go_wp2_with fail
          go_ret
          exact .inr ⟨rfl, HNM.out, HADD.out⟩
      · have HLA : Hid ((([] : List R) = [] ∧ n = n ∧ ∀ r ∈ rs.take (j + 1), r.2 + 1 ≠ n) ∨ ∃ l : R, ([] : List R) = [l] ∧ n = l.1 ∧ l.2 + 1 = n) := .inl ⟨rfl, rfl, fun r hr => by
          obtain ⟨t, ht, rfl⟩ := List.getElem_of_mem hr
          rw [List.getElem_take]
          simp at ht
          rcases Nat.lt_or_ge t j with h0 | h0
          · have h1 := HR.out.rise h0 hlt0
            have := HLT.out
            omega
          · have : t = j := by omega
            subst this; exact hat⟩
        have HSL : Hid (rs = rs.take (j + 1) ++ [] ++ rs.drop (j + 1)) := by unfold Hid; rw [List.append_nil, List.take_append_drop]
        have HLO : Hid (∀ r ∈ rs.take (j + 1) ++ ([] : List R), r.2 < n) := fun r hr => by rw [List.append_nil] at hr; exact HAT.out.lo r hr
        have hx1 : ((rs[j].2 : Nat) : Int) ≠ (n : Int) - 1 := by omega
        generalize rs[j].2 = x2 at c1 hx1
        generalize rs[j].1 = x1 at c0
        go_upto_region 9 with fail
        clear c0 c1 hx1
        by_cases hi2 : j + 1 < len
        · by_cases hbt : (rs[j + 1]'(by have := HL.out; omega)).1 = n + 1
          · have hzz := hi2
            have hlt : j + 1 < rs.length := by have := HL.out; omega
            obtain ⟨hg, hcell⟩ := HV.out.at' (i := j + 1) (List.getElem?_eq_getElem hlt)
            obtain ⟨c0, c1⟩ := hcell w2 (((HA2.out.be.block g (by have := HB1.out.size; omega)).trans (HB1.out.block g hg)))
            obtain ⟨q, HQ⟩ : ∃ q, Hid (q = rs[j + 1].2) := ⟨_, hid rfl⟩
            rw [← HQ.out] at c1
            have HLB : Hid (([rs[j + 1]] = [] ∧ q = n ∧ ∀ r ∈ rs.drop (j + 1 + 1), r.1 ≠ n + 1) ∨ ∃ l : R, [rs[j + 1]] = [l] ∧ q = l.2 ∧ l.1 = n + 1) := hid (.inr ⟨rs[j + 1], rfl, HQ.out, hbt⟩)
            have HSPL : Hid (rs = rs.take (j + 1) ++ ([] : List R) ++ ([rs[j + 1]] ++ rs.drop (j + 1 + 1))) := by
              unfold Hid
              have e : rs.drop (j + 1) = [rs[j + 1]] ++ rs.drop (j + 1 + 1) := List.drop_eq_getElem_cons hlt
              rw [← e]; exact HSL.out
            have HHI : Hid (∀ r ∈ [rs[j + 1]] ++ rs.drop (j + 1 + 1), n < r.1) := hid fun r hr => by
              have e : rs.drop (j + 1) = [rs[j + 1]] ++ rs.drop (j + 1 + 1) := List.drop_eq_getElem_cons hlt
              rw [← e] at hr; exact HBA.out r hr
            have hx1 : ((rs[j + 1].1 : Nat) : Int) = (n : Int) + 1 := by omega
            rw [hx1] at c0
            obtain ⟨e0, e1, e2, e3⟩ := HA2.out.cells
            clear hcell hg hx1
            go_upto_region 12 with fail
            obtain ⟨w4, HW4⟩ : ∃ w4, Hid (w4 = w2.setCell ⟨jb, 1, none⟩ (.int .i64 (q : Int))) := ⟨_, rfl⟩
            have HA4 : Hid (Ad w1 jb (n) q w4) := by rw [HW4.out]; exact HA2.out.set1 q
            rw [← HW4.out]
            clear HW4 c0 c1 e0 e1 e2 e3
            obtain ⟨k0, k1, k2, k3⟩ := HA4.out.cells
            have HF0 : Hid (∀ (v'' : Value) (u' : World), Row u' 0 v'' (j + 1 + 1 + (len - (j + 1 + 1))) ((rc rs).take ((j + 1) * 2) ++ [.int .i64 (n : Int), .int .i64 (q : Int)] ++ (rc rs).drop ((j + 1 + 1) * 2)) → (w4.alloc (.cells #[.int .i64 (n : Int), .int .i64 (q : Int)] 64)).grownBy u' (Value.ownBlock (.slice (some ⟨g, 0, none⟩) len cap)) → NewBlk (.slice (some ⟨g, 0, none⟩) len cap) v'' (w4.alloc (.cells #[.int .i64 (n : Int), .int .i64 (q : Int)] 64)).heap.size → Added pb off cs (.slice (some ⟨g, 0, none⟩) len cap) rs n w (u'.setCell ⟨pb, off, none⟩ v'')) := fun v'' u' hrow hg hnb =>
              added_of (A := rs.take (j + 1)) (B := rs.drop (j + 1 + 1)) (la := ([] : List R)) (lb := [rs[j + 1]]) (p := n) (q := q) (f := j + 1) (b := j + 1 + 1) (m := j + 1 + 1 + (len - (j + 1 + 1)))
                ((HB1.out.trans (HA4.out.be.mono HB1.out.size)).alloc (Nat.le_trans HB1.out.size HA4.out.be.size) _) HP.out HV.out HSPL.out HR.out hn HLO.out HHI.out HLA.out HLB.out (by rw [List.length_take]; have := HL.out; omega) (by rw [List.length_take]; have := HL.out; simp; try omega) (by rw [HL.out]) hrow hg hnb
            have HROW : Hid (Row (w4.alloc (.cells #[.int .i64 (n : Int), .int .i64 (q : Int)] 64)) 0 (.slice (some ⟨g, 0, none⟩) len cap) rs.length (rc rs)) := hid (World.ownsRow.alloc ((HV.out.below HB1.out).below HA4.out.be) _)
            have HV1 : Hid (Row (w4.alloc (.cells #[.int .i64 (n : Int), .int .i64 (q : Int)] 64)) 0 (.slice (some ⟨w4.heap.size, 0, none⟩) 1 1) 1 [.int .i64 (n : Int), .int .i64 (q : Int)]) :=
              World.ownsRow_lit w4 #[.int .i64 (n : Int), .int .i64 (q : Int)] 1 (Nat.zero_le _) (by decide) rfl
            have HREP := hid (replace_any 0 rs.length 1 (j + 1) (j + 1 + 1) (.slice (some ⟨g, 0, none⟩) len cap) (.slice (some ⟨w4.heap.size, 0, none⟩) 1 1) (rc rs) [.int .i64 (n : Int), .int .i64 (q : Int)] _ HROW.out HV1.out (rc_one rs) (fun u hu => by simp at hu; rcases hu with rfl | rfl <;> rfl) (fun h => by cases h) (.inr (fun e => by
              have hlt := (World.ownsRow.lt ((HV.out.below HB1.out).below HA4.out.be) _ e.symm).2
              exact Nat.lt_irrefl _ hlt)) (by omega) (by have := HL.out; omega) (by have := HL.out; omega) (Nat.zero_le _))
            rw [← HL.out] at HREP
            clear HROW HV1
            go_wp2_with fail
            refine HREP.out.mono ?_
            rintro _ w5 ⟨v5, rfl, hrow, hg, hnb⟩
            have HADD := hid (HF0.out v5 w5 hrow hg hnb)
            obtain ⟨g5, cap5, cur5, rfl, -⟩ := Row.at hrow (by omega)
            generalize j + 1 + 1 + (len - (j + 1 + 1)) = m5 at hrow HADD ⊢
            have hp5 : w5.heap[pb]? = some (.cells cs 68 (0, 0)) := by
              have hx : (Value.ownBlock (.slice (some ⟨g, 0, none⟩) len cap)) ≠ some pb := fun e => by
                rcases HV.out.2 with ⟨h, _⟩ | ⟨g', cap', cur', h, _, hgg, _⟩
                · rw [h] at e; cases e
                · rw [h] at e
                  simp [Value.ownBlock] at e
                  rw [e, HP.out] at hgg
                  simp at hgg
              have hbw := HB1.out.trans (HA4.out.be.mono HB1.out.size)
              rw [hg.block pb (by simp; have := hbw.size; omega) (fun e => hx e.symm), heap_alloc_old _ _ (by have := hbw.size; omega), hbw.block pb hpl]
              exact HP.out
            have d0 : w5.cell? ⟨pb, off, none⟩ = some (.slice (some ⟨g, 0, none⟩) len cap) := by rw [cell_of_row _ _ _ _ _ _ hp5]; exact HO.out
            have d1 : w5.frozen? ⟨pb, off, none⟩ = false := frozen_of_row _ _ _ _ _ hp5
            clear hrow hg hnb hp5 k0 k1 k2 k3
            go_wp2_with fail
            go_ret
            exact .inr ⟨rfl, HNM.out, HADD.out⟩
          · have hzz := hi2
            have hlt : j + 1 < rs.length := by have := HL.out; omega
            obtain ⟨hg, hcell⟩ := HV.out.at' (i := j + 1) (List.getElem?_eq_getElem hlt)
            obtain ⟨c0, c1⟩ := hcell w2 (((HA2.out.be.block g (by have := HB1.out.size; omega)).trans (HB1.out.block g hg)))
            have HN1 : Hid (n < rs[j + 1].1) := HBH.out hlt
            have HLB : Hid ((([] : List R) = [] ∧ n = n ∧ ∀ r ∈ rs.drop (j + 1), r.1 ≠ n + 1) ∨ ∃ l : R, ([] : List R) = [l] ∧ n = l.2 ∧ l.1 = n + 1) := .inl ⟨rfl, rfl, fun r hr => by
              obtain ⟨t, ht, rfl⟩ := List.getElem_of_mem hr
              rw [List.getElem_drop]
              rcases Nat.eq_zero_or_pos t with h0 | h0
              · subst h0; exact hbt
              · have h1 := List.pairwise_iff_getElem.1 HR.out.up (j + 1) (j + 1 + t) hlt (by simp at ht; omega) (by omega)
                have h2 := (HR.out.ok rs[j + 1] (List.getElem_mem hlt)).1
                have := HN1.out
                unfold Apart at h1
                omega⟩
            have HSPL : Hid (rs = rs.take (j + 1) ++ ([] : List R) ++ ([] ++ rs.drop (j + 1))) := by unfold Hid; rw [List.nil_append]; exact HSL.out
            have HHI : Hid (∀ r ∈ ([] : List R) ++ rs.drop (j + 1), n < r.1) := fun r hr => by rw [List.nil_append] at hr; exact HBA.out r hr
            have hb1 : ((rs[j + 1].1 : Nat) : Int) ≠ (n : Int) + 1 := by omega
            generalize rs[j + 1].1 = x1 at c0 hb1
            generalize rs[j + 1].2 = x2 at c1
            clear hcell hg
            obtain ⟨k0, k1, k2, k3⟩ := HA2.out.cells
            have HF0 : Hid (∀ (v'' : Value) (u' : World), Row u' 0 v'' (j + 1 + 1 + (len - (j + 1))) ((rc rs).take ((j + 1) * 2) ++ [.int .i64 (n : Int), .int .i64 (n : Int)] ++ (rc rs).drop ((j + 1) * 2)) → (w2.alloc (.cells #[.int .i64 (n : Int), .int .i64 (n : Int)] 64)).grownBy u' (Value.ownBlock (.slice (some ⟨g, 0, none⟩) len cap)) → NewBlk (.slice (some ⟨g, 0, none⟩) len cap) v'' (w2.alloc (.cells #[.int .i64 (n : Int), .int .i64 (n : Int)] 64)).heap.size → Added pb off cs (.slice (some ⟨g, 0, none⟩) len cap) rs n w (u'.setCell ⟨pb, off, none⟩ v'')) := fun v'' u' hrow hg hnb =>
              added_of (A := rs.take (j + 1)) (B := rs.drop (j + 1)) (la := ([] : List R)) (lb := []) (p := n) (q := n) (f := j + 1) (b := j + 1) (m := j + 1 + 1 + (len - (j + 1)))
                ((HB1.out.trans (HA2.out.be.mono HB1.out.size)).alloc (Nat.le_trans HB1.out.size HA2.out.be.size) _) HP.out HV.out HSPL.out HR.out hn HLO.out HHI.out HLA.out HLB.out (by rw [List.length_take]; have := HL.out; omega) (by rw [List.length_take]; have := HL.out; simp; try omega) (by rw [HL.out]) hrow hg hnb
            have HROW : Hid (Row (w2.alloc (.cells #[.int .i64 (n : Int), .int .i64 (n : Int)] 64)) 0 (.slice (some ⟨g, 0, none⟩) len cap) rs.length (rc rs)) := hid (World.ownsRow.alloc ((HV.out.below HB1.out).below HA2.out.be) _)
            have HV1 : Hid (Row (w2.alloc (.cells #[.int .i64 (n : Int), .int .i64 (n : Int)] 64)) 0 (.slice (some ⟨w2.heap.size, 0, none⟩) 1 1) 1 [.int .i64 (n : Int), .int .i64 (n : Int)]) :=
              World.ownsRow_lit w2 #[.int .i64 (n : Int), .int .i64 (n : Int)] 1 (Nat.zero_le _) (by decide) rfl
            have HREP := hid (replace_any 0 rs.length 1 (j + 1) (j + 1) (.slice (some ⟨g, 0, none⟩) len cap) (.slice (some ⟨w2.heap.size, 0, none⟩) 1 1) (rc rs) [.int .i64 (n : Int), .int .i64 (n : Int)] _ HROW.out HV1.out (rc_one rs) (fun u hu => by simp at hu; rcases hu with rfl | rfl <;> rfl) (fun h => by cases h) (.inr (fun e => by
              have hlt := (World.ownsRow.lt ((HV.out.below HB1.out).below HA2.out.be) _ e.symm).2
              exact Nat.lt_irrefl _ hlt)) (by omega) (by have := HL.out; omega) (by have := HL.out; omega) (Nat.zero_le _))
            rw [← HL.out] at HREP
            clear HROW HV1
            go_wp2_with fail
            refine HREP.out.mono ?_
            rintro _ w5 ⟨v5, rfl, hrow, hg, hnb⟩
            have HADD := hid (HF0.out v5 w5 hrow hg hnb)
            obtain ⟨g5, cap5, cur5, rfl, -⟩ := Row.at hrow (by omega)
            generalize j + 1 + 1 + (len - (j + 1)) = m5 at hrow HADD ⊢
            have hp5 : w5.heap[pb]? = some (.cells cs 68 (0, 0)) := by
              have hx : (Value.ownBlock (.slice (some ⟨g, 0, none⟩) len cap)) ≠ some pb := fun e => by
                rcases HV.out.2 with ⟨h, _⟩ | ⟨g', cap', cur', h, _, hgg, _⟩
                · rw [h] at e; cases e
                · rw [h] at e
                  simp [Value.ownBlock] at e
                  rw [e, HP.out] at hgg
                  simp at hgg
              have hbw := HB1.out.trans (HA2.out.be.mono HB1.out.size)
              rw [hg.block pb (by simp; have := hbw.size; omega) (fun e => hx e.symm), heap_alloc_old _ _ (by have := hbw.size; omega), hbw.block pb hpl]
              exact HP.out
            have d0 : w5.cell? ⟨pb, off, none⟩ = some (.slice (some ⟨g, 0, none⟩) len cap) := by rw [cell_of_row _ _ _ _ _ _ hp5]; exact HO.out
            have d1 : w5.frozen? ⟨pb, off, none⟩ = false := frozen_of_row _ _ _ _ _ hp5
            clear hrow hg hnb hp5 k0 k1 k2 k3
            go_wp2_with fail
            go_ret
            exact .inr ⟨rfl, HNM.out, HADD.out⟩
        · have hzz := hi2
          have hb0 : ¬ (j + 1 < len) := by omega
          have HLB : Hid ((([] : List R) = [] ∧ n = n ∧ ∀ r ∈ rs.drop (j + 1), r.1 ≠ n + 1) ∨ ∃ l : R, ([] : List R) = [l] ∧ n = l.2 ∧ l.1 = n + 1) := .inl ⟨rfl, rfl, fun r hr => by rw [List.drop_of_length_le (by have := HL.out; omega)] at hr; cases hr⟩
          have HSPL : Hid (rs = rs.take (j + 1) ++ ([] : List R) ++ ([] ++ rs.drop (j + 1))) := by unfold Hid; rw [List.nil_append]; exact HSL.out
          have HHI : Hid (∀ r ∈ ([] : List R) ++ rs.drop (j + 1), n < r.1) := fun r hr => by rw [List.nil_append, List.drop_of_length_le (by have := HL.out; omega)] at hr; cases hr
          obtain ⟨k0, k1, k2, k3⟩ := HA2.out.cells
          have HF0 : Hid (∀ (v'' : Value) (u' : World), Row u' 0 v'' (j + 1 + 1 + (len - (j + 1))) ((rc rs).take ((j + 1) * 2) ++ [.int .i64 (n : Int), .int .i64 (n : Int)] ++ (rc rs).drop ((j + 1) * 2)) → (w2.alloc (.cells #[.int .i64 (n : Int), .int .i64 (n : Int)] 64)).grownBy u' (Value.ownBlock (.slice (some ⟨g, 0, none⟩) len cap)) → NewBlk (.slice (some ⟨g, 0, none⟩) len cap) v'' (w2.alloc (.cells #[.int .i64 (n : Int), .int .i64 (n : Int)] 64)).heap.size → Added pb off cs (.slice (some ⟨g, 0, none⟩) len cap) rs n w (u'.setCell ⟨pb, off, none⟩ v'')) := fun v'' u' hrow hg hnb =>
            added_of (A := rs.take (j + 1)) (B := rs.drop (j + 1)) (la := ([] : List R)) (lb := []) (p := n) (q := n) (f := j + 1) (b := j + 1) (m := j + 1 + 1 + (len - (j + 1)))
              ((HB1.out.trans (HA2.out.be.mono HB1.out.size)).alloc (Nat.le_trans HB1.out.size HA2.out.be.size) _) HP.out HV.out HSPL.out HR.out hn HLO.out HHI.out HLA.out HLB.out (by rw [List.length_take]; have := HL.out; omega) (by rw [List.length_take]; have := HL.out; simp; try omega) (by rw [HL.out]) hrow hg hnb
          have HROW : Hid (Row (w2.alloc (.cells #[.int .i64 (n : Int), .int .i64 (n : Int)] 64)) 0 (.slice (some ⟨g, 0, none⟩) len cap) rs.length (rc rs)) := hid (World.ownsRow.alloc ((HV.out.below HB1.out).below HA2.out.be) _)
          have HV1 : Hid (Row (w2.alloc (.cells #[.int .i64 (n : Int), .int .i64 (n : Int)] 64)) 0 (.slice (some ⟨w2.heap.size, 0, none⟩) 1 1) 1 [.int .i64 (n : Int), .int .i64 (n : Int)]) :=
            World.ownsRow_lit w2 #[.int .i64 (n : Int), .int .i64 (n : Int)] 1 (Nat.zero_le _) (by decide) rfl
          have HREP := hid (replace_any 0 rs.length 1 (j + 1) (j + 1) (.slice (some ⟨g, 0, none⟩) len cap) (.slice (some ⟨w2.heap.size, 0, none⟩) 1 1) (rc rs) [.int .i64 (n : Int), .int .i64 (n : Int)] _ HROW.out HV1.out (rc_one rs) (fun u hu => by simp at hu; rcases hu with rfl | rfl <;> rfl) (fun h => by cases h) (.inr (fun e => by
            have hlt := (World.ownsRow.lt ((HV.out.below HB1.out).below HA2.out.be) _ e.symm).2
            exact Nat.lt_irrefl _ hlt)) (by omega) (by have := HL.out; omega) (by have := HL.out; omega) (Nat.zero_le _))
          rw [← HL.out] at HREP
          clear HROW HV1
          go_wp2_with fail
          refine HREP.out.mono ?_
          rintro _ w5 ⟨v5, rfl, hrow, hg, hnb⟩
          have HADD := hid (HF0.out v5 w5 hrow hg hnb)
          obtain ⟨g5, cap5, cur5, rfl, -⟩ := Row.at hrow (by omega)
          generalize j + 1 + 1 + (len - (j + 1)) = m5 at hrow HADD ⊢
          have hp5 : w5.heap[pb]? = some (.cells cs 68 (0, 0)) := by
            have hx : (Value.ownBlock (.slice (some ⟨g, 0, none⟩) len cap)) ≠ some pb := fun e => by
              rcases HV.out.2 with ⟨h, _⟩ | ⟨g', cap', cur', h, _, hgg, _⟩
              · rw [h] at e; cases e
              · rw [h] at e
                simp [Value.ownBlock] at e
                rw [e, HP.out] at hgg
                simp at hgg
            have hbw := HB1.out.trans (HA2.out.be.mono HB1.out.size)
            rw [hg.block pb (by simp; have := hbw.size; omega) (fun e => hx e.symm), heap_alloc_old _ _ (by have := hbw.size; omega), hbw.block pb hpl]
            exact HP.out
          have d0 : w5.cell? ⟨pb, off, none⟩ = some (.slice (some ⟨g, 0, none⟩) len cap) := by rw [cell_of_row _ _ _ _ _ _ hp5]; exact HO.out
          have d1 : w5.frozen? ⟨pb, off, none⟩ = false := frozen_of_row _ _ _ _ _ hp5
          clear hrow hg hnb hp5 k0 k1 k2 k3
          go_wp2_with fail
          go_ret
          exact .inr ⟨rfl, HNM.out, HADD.out⟩
    · obtain rfl : i = 0 := by omega
      have HLA : Hid ((([] : List R) = [] ∧ n = n ∧ ∀ r ∈ rs.take 0, r.2 + 1 ≠ n) ∨ ∃ l : R, ([] : List R) = [l] ∧ n = l.1 ∧ l.2 + 1 = n) := .inl ⟨rfl, rfl, fun r hr => by simp at hr⟩
      have HSL : Hid (rs = rs.take 0 ++ [] ++ rs.drop 0) := by unfold Hid; simp
      have HLO : Hid (∀ r ∈ rs.take 0 ++ ([] : List R), r.2 < n) := fun r hr => by simp at hr
      clear hi0
      go_upto_region 9 with fail
      by_cases hi2 : 0 < len
      · by_cases hbt : (rs[0]'(by have := HL.out; omega)).1 = n + 1
        · have hzz := hi2
          have hlt : 0 < rs.length := by have := HL.out; omega
          obtain ⟨g, rfl, hg, hcell⟩ := HV.out.at (i := 0) (List.getElem?_eq_getElem hlt)
          obtain ⟨c0, c1⟩ := hcell w2 (((HA2.out.be.block g (by have := HB1.out.size; omega)).trans (HB1.out.block g hg)))
          obtain ⟨q, HQ⟩ : ∃ q, Hid (q = rs[0].2) := ⟨_, hid rfl⟩
          rw [← HQ.out] at c1
          have HLB : Hid (([rs[0]] = [] ∧ q = n ∧ ∀ r ∈ rs.drop (1), r.1 ≠ n + 1) ∨ ∃ l : R, [rs[0]] = [l] ∧ q = l.2 ∧ l.1 = n + 1) := hid (.inr ⟨rs[0], rfl, HQ.out, hbt⟩)
          have HSPL : Hid (rs = rs.take (0) ++ ([] : List R) ++ ([rs[0]] ++ rs.drop (1))) := by
            unfold Hid
            have e : rs.drop (0) = [rs[0]] ++ rs.drop (1) := List.drop_eq_getElem_cons hlt
            rw [← e]; exact HSL.out
          have HHI : Hid (∀ r ∈ [rs[0]] ++ rs.drop (1), n < r.1) := hid fun r hr => by
            have e : rs.drop (0) = [rs[0]] ++ rs.drop (1) := List.drop_eq_getElem_cons hlt
            rw [← e] at hr; exact HBA.out r hr
          have hx1 : ((rs[0].1 : Nat) : Int) = (n : Int) + 1 := by omega
          rw [hx1] at c0
          obtain ⟨e0, e1, e2, e3⟩ := HA2.out.cells
          clear hcell hg hx1
          go_upto_region 12 with fail
          obtain ⟨w4, HW4⟩ : ∃ w4, Hid (w4 = w2.setCell ⟨jb, 1, none⟩ (.int .i64 (q : Int))) := ⟨_, rfl⟩
          have HA4 : Hid (Ad w1 jb (n) q w4) := by rw [HW4.out]; exact HA2.out.set1 q
          rw [← HW4.out]
          clear HW4 c0 c1 e0 e1 e2 e3
          obtain ⟨k0, k1, k2, k3⟩ := HA4.out.cells
          have HF0 : Hid (∀ (v'' : Value) (u' : World), Row u' 0 v'' (0 + 1 + (len - (1))) ((rc rs).take ((0) * 2) ++ [.int .i64 (n : Int), .int .i64 (q : Int)] ++ (rc rs).drop ((1) * 2)) → (w4.alloc (.cells #[.int .i64 (n : Int), .int .i64 (q : Int)] 64)).grownBy u' (Value.ownBlock (.slice (some ⟨g, 0, none⟩) len cap)) → NewBlk (.slice (some ⟨g, 0, none⟩) len cap) v'' (w4.alloc (.cells #[.int .i64 (n : Int), .int .i64 (q : Int)] 64)).heap.size → Added pb off cs (.slice (some ⟨g, 0, none⟩) len cap) rs n w (u'.setCell ⟨pb, off, none⟩ v'')) := fun v'' u' hrow hg hnb =>
            added_of (A := rs.take (0)) (B := rs.drop (1)) (la := ([] : List R)) (lb := [rs[0]]) (p := n) (q := q) (f := 0) (b := 1) (m := 0 + 1 + (len - (1)))
              ((HB1.out.trans (HA4.out.be.mono HB1.out.size)).alloc (Nat.le_trans HB1.out.size HA4.out.be.size) _) HP.out HV.out HSPL.out HR.out hn HLO.out HHI.out HLA.out HLB.out (by rw [List.length_take]; have := HL.out; omega) (by rw [List.length_take]; have := HL.out; simp; try omega) (by rw [HL.out]) hrow hg hnb
          have HROW : Hid (Row (w4.alloc (.cells #[.int .i64 (n : Int), .int .i64 (q : Int)] 64)) 0 (.slice (some ⟨g, 0, none⟩) len cap) rs.length (rc rs)) := hid (World.ownsRow.alloc ((HV.out.below HB1.out).below HA4.out.be) _)
          have HV1 : Hid (Row (w4.alloc (.cells #[.int .i64 (n : Int), .int .i64 (q : Int)] 64)) 0 (.slice (some ⟨w4.heap.size, 0, none⟩) 1 1) 1 [.int .i64 (n : Int), .int .i64 (q : Int)]) :=
            World.ownsRow_lit w4 #[.int .i64 (n : Int), .int .i64 (q : Int)] 1 (Nat.zero_le _) (by decide) rfl
          have HREP := hid (replace_any 0 rs.length 1 (0) (1) (.slice (some ⟨g, 0, none⟩) len cap) (.slice (some ⟨w4.heap.size, 0, none⟩) 1 1) (rc rs) [.int .i64 (n : Int), .int .i64 (q : Int)] _ HROW.out HV1.out (rc_one rs) (fun u hu => by simp at hu; rcases hu with rfl | rfl <;> rfl) (fun h => by cases h) (.inr (fun e => by
            have hlt := (World.ownsRow.lt ((HV.out.below HB1.out).below HA4.out.be) _ e.symm).2
            exact Nat.lt_irrefl _ hlt)) (by omega) (by have := HL.out; omega) (by have := HL.out; omega) (Nat.zero_le _))
          rw [← HL.out] at HREP
          clear HROW HV1
          go_wp2_with fail
          refine HREP.out.mono ?_
          rintro _ w5 ⟨v5, rfl, hrow, hg, hnb⟩
          have HADD := hid (HF0.out v5 w5 hrow hg hnb)
          obtain ⟨g5, cap5, cur5, rfl, -⟩ := Row.at hrow (by omega)
          generalize 0 + 1 + (len - (1)) = m5 at hrow HADD ⊢
          have hp5 : w5.heap[pb]? = some (.cells cs 68 (0, 0)) := by
            have hx : (Value.ownBlock (.slice (some ⟨g, 0, none⟩) len cap)) ≠ some pb := fun e => by
              rcases HV.out.2 with ⟨h, _⟩ | ⟨g', cap', cur', h, _, hgg, _⟩
              · rw [h] at e; cases e
              · rw [h] at e
                simp [Value.ownBlock] at e
                rw [e, HP.out] at hgg
                simp at hgg
            have hbw := HB1.out.trans (HA4.out.be.mono HB1.out.size)
            rw [hg.block pb (by simp; have := hbw.size; omega) (fun e => hx e.symm), heap_alloc_old _ _ (by have := hbw.size; omega), hbw.block pb hpl]
            exact HP.out
          have d0 : w5.cell? ⟨pb, off, none⟩ = some (.slice (some ⟨g, 0, none⟩) len cap) := by rw [cell_of_row _ _ _ _ _ _ hp5]; exact HO.out
          have d1 : w5.frozen? ⟨pb, off, none⟩ = false := frozen_of_row _ _ _ _ _ hp5
          clear hrow hg hnb hp5 k0 k1 k2 k3
          go_wp2_with fail
          go_ret
          exact .inr ⟨rfl, HNM.out, HADD.out⟩
        · have hzz := hi2
          have hlt : 0 < rs.length := by have := HL.out; omega
          obtain ⟨g, rfl, hg, hcell⟩ := HV.out.at (i := 0) (List.getElem?_eq_getElem hlt)
          obtain ⟨c0, c1⟩ := hcell w2 (((HA2.out.be.block g (by have := HB1.out.size; omega)).trans (HB1.out.block g hg)))
          have HN1 : Hid (n < rs[0].1) := HBH.out hlt
          have HLB : Hid ((([] : List R) = [] ∧ n = n ∧ ∀ r ∈ rs.drop (0), r.1 ≠ n + 1) ∨ ∃ l : R, ([] : List R) = [l] ∧ n = l.2 ∧ l.1 = n + 1) := .inl ⟨rfl, rfl, fun r hr => by
            obtain ⟨t, ht, rfl⟩ := List.getElem_of_mem hr
            rw [List.getElem_drop]
            rcases Nat.eq_zero_or_pos t with h0 | h0
            · subst h0; exact hbt
            · have h1 := List.pairwise_iff_getElem.1 HR.out.up (0) (0 + t) hlt (by simp at ht; omega) (by omega)
              have h2 := (HR.out.ok rs[0] (List.getElem_mem hlt)).1
              have := HN1.out
              unfold Apart at h1
              omega⟩
          have HSPL : Hid (rs = rs.take (0) ++ ([] : List R) ++ ([] ++ rs.drop (0))) := by unfold Hid; rw [List.nil_append]; exact HSL.out
          have HHI : Hid (∀ r ∈ ([] : List R) ++ rs.drop (0), n < r.1) := fun r hr => by rw [List.nil_append] at hr; exact HBA.out r hr
          have hb1 : ((rs[0].1 : Nat) : Int) ≠ (n : Int) + 1 := by omega
          generalize rs[0].1 = x1 at c0 hb1
          generalize rs[0].2 = x2 at c1
          clear hcell hg
          obtain ⟨k0, k1, k2, k3⟩ := HA2.out.cells
          have HF0 : Hid (∀ (v'' : Value) (u' : World), Row u' 0 v'' (0 + 1 + (len - (0))) ((rc rs).take ((0) * 2) ++ [.int .i64 (n : Int), .int .i64 (n : Int)] ++ (rc rs).drop ((0) * 2)) → (w2.alloc (.cells #[.int .i64 (n : Int), .int .i64 (n : Int)] 64)).grownBy u' (Value.ownBlock (.slice (some ⟨g, 0, none⟩) len cap)) → NewBlk (.slice (some ⟨g, 0, none⟩) len cap) v'' (w2.alloc (.cells #[.int .i64 (n : Int), .int .i64 (n : Int)] 64)).heap.size → Added pb off cs (.slice (some ⟨g, 0, none⟩) len cap) rs n w (u'.setCell ⟨pb, off, none⟩ v'')) := fun v'' u' hrow hg hnb =>
            added_of (A := rs.take (0)) (B := rs.drop (0)) (la := ([] : List R)) (lb := []) (p := n) (q := n) (f := 0) (b := 0) (m := 0 + 1 + (len - (0)))
              ((HB1.out.trans (HA2.out.be.mono HB1.out.size)).alloc (Nat.le_trans HB1.out.size HA2.out.be.size) _) HP.out HV.out HSPL.out HR.out hn HLO.out HHI.out HLA.out HLB.out (by rw [List.length_take]; have := HL.out; omega) (by rw [List.length_take]; have := HL.out; simp; try omega) (by rw [HL.out]) hrow hg hnb
          have HROW : Hid (Row (w2.alloc (.cells #[.int .i64 (n : Int), .int .i64 (n : Int)] 64)) 0 (.slice (some ⟨g, 0, none⟩) len cap) rs.length (rc rs)) := hid (World.ownsRow.alloc ((HV.out.below HB1.out).below HA2.out.be) _)
          have HV1 : Hid (Row (w2.alloc (.cells #[.int .i64 (n : Int), .int .i64 (n : Int)] 64)) 0 (.slice (some ⟨w2.heap.size, 0, none⟩) 1 1) 1 [.int .i64 (n : Int), .int .i64 (n : Int)]) :=
            World.ownsRow_lit w2 #[.int .i64 (n : Int), .int .i64 (n : Int)] 1 (Nat.zero_le _) (by decide) rfl
          have HREP := hid (replace_any 0 rs.length 1 (0) (0) (.slice (some ⟨g, 0, none⟩) len cap) (.slice (some ⟨w2.heap.size, 0, none⟩) 1 1) (rc rs) [.int .i64 (n : Int), .int .i64 (n : Int)] _ HROW.out HV1.out (rc_one rs) (fun u hu => by simp at hu; rcases hu with rfl | rfl <;> rfl) (fun h => by cases h) (.inr (fun e => by
            have hlt := (World.ownsRow.lt ((HV.out.below HB1.out).below HA2.out.be) _ e.symm).2
            exact Nat.lt_irrefl _ hlt)) (by omega) (by have := HL.out; omega) (by have := HL.out; omega) (Nat.zero_le _))
          rw [← HL.out] at HREP
          clear HROW HV1
          go_wp2_with fail
          refine HREP.out.mono ?_
          rintro _ w5 ⟨v5, rfl, hrow, hg, hnb⟩
          have HADD := hid (HF0.out v5 w5 hrow hg hnb)
          obtain ⟨g5, cap5, cur5, rfl, -⟩ := Row.at hrow (by omega)
          generalize 0 + 1 + (len - (0)) = m5 at hrow HADD ⊢
          have hp5 : w5.heap[pb]? = some (.cells cs 68 (0, 0)) := by
            have hx : (Value.ownBlock (.slice (some ⟨g, 0, none⟩) len cap)) ≠ some pb := fun e => by
              rcases HV.out.2 with ⟨h, _⟩ | ⟨g', cap', cur', h, _, hgg, _⟩
              · rw [h] at e; cases e
              · rw [h] at e
                simp [Value.ownBlock] at e
                rw [e, HP.out] at hgg
                simp at hgg
            have hbw := HB1.out.trans (HA2.out.be.mono HB1.out.size)
            rw [hg.block pb (by simp; have := hbw.size; omega) (fun e => hx e.symm), heap_alloc_old _ _ (by have := hbw.size; omega), hbw.block pb hpl]
            exact HP.out
          have d0 : w5.cell? ⟨pb, off, none⟩ = some (.slice (some ⟨g, 0, none⟩) len cap) := by rw [cell_of_row _ _ _ _ _ _ hp5]; exact HO.out
          have d1 : w5.frozen? ⟨pb, off, none⟩ = false := frozen_of_row _ _ _ _ _ hp5
          clear hrow hg hnb hp5 k0 k1 k2 k3
          go_wp2_with fail
          go_ret
          exact .inr ⟨rfl, HNM.out, HADD.out⟩
      · have hzz := hi2
        have hb0 : ¬ (0 < len) := by omega
        have HLB : Hid ((([] : List R) = [] ∧ n = n ∧ ∀ r ∈ rs.drop (0), r.1 ≠ n + 1) ∨ ∃ l : R, ([] : List R) = [l] ∧ n = l.2 ∧ l.1 = n + 1) := .inl ⟨rfl, rfl, fun r hr => by rw [List.drop_of_length_le (by have := HL.out; omega)] at hr; cases hr⟩
        have HSPL : Hid (rs = rs.take (0) ++ ([] : List R) ++ ([] ++ rs.drop (0))) := by unfold Hid; rw [List.nil_append]; exact HSL.out
        have HHI : Hid (∀ r ∈ ([] : List R) ++ rs.drop (0), n < r.1) := fun r hr => by rw [List.nil_append, List.drop_of_length_le (by have := HL.out; omega)] at hr; cases hr
        obtain ⟨k0, k1, k2, k3⟩ := HA2.out.cells
        have HF0 : Hid (∀ (v'' : Value) (u' : World), Row u' 0 v'' (0 + 1 + (len - (0))) ((rc rs).take ((0) * 2) ++ [.int .i64 (n : Int), .int .i64 (n : Int)] ++ (rc rs).drop ((0) * 2)) → (w2.alloc (.cells #[.int .i64 (n : Int), .int .i64 (n : Int)] 64)).grownBy u' (Value.ownBlock (.slice a len cap)) → NewBlk (.slice a len cap) v'' (w2.alloc (.cells #[.int .i64 (n : Int), .int .i64 (n : Int)] 64)).heap.size → Added pb off cs (.slice a len cap) rs n w (u'.setCell ⟨pb, off, none⟩ v'')) := fun v'' u' hrow hg hnb =>
          added_of (A := rs.take (0)) (B := rs.drop (0)) (la := ([] : List R)) (lb := []) (p := n) (q := n) (f := 0) (b := 0) (m := 0 + 1 + (len - (0)))
            ((HB1.out.trans (HA2.out.be.mono HB1.out.size)).alloc (Nat.le_trans HB1.out.size HA2.out.be.size) _) HP.out HV.out HSPL.out HR.out hn HLO.out HHI.out HLA.out HLB.out (by rw [List.length_take]; have := HL.out; omega) (by rw [List.length_take]; have := HL.out; simp; try omega) (by rw [HL.out]) hrow hg hnb
        have HROW : Hid (Row (w2.alloc (.cells #[.int .i64 (n : Int), .int .i64 (n : Int)] 64)) 0 (.slice a len cap) rs.length (rc rs)) := hid (World.ownsRow.alloc ((HV.out.below HB1.out).below HA2.out.be) _)
        have HV1 : Hid (Row (w2.alloc (.cells #[.int .i64 (n : Int), .int .i64 (n : Int)] 64)) 0 (.slice (some ⟨w2.heap.size, 0, none⟩) 1 1) 1 [.int .i64 (n : Int), .int .i64 (n : Int)]) :=
          World.ownsRow_lit w2 #[.int .i64 (n : Int), .int .i64 (n : Int)] 1 (Nat.zero_le _) (by decide) rfl
        have HREP := hid (replace_any 0 rs.length 1 (0) (0) (.slice a len cap) (.slice (some ⟨w2.heap.size, 0, none⟩) 1 1) (rc rs) [.int .i64 (n : Int), .int .i64 (n : Int)] _ HROW.out HV1.out (rc_one rs) (fun u hu => by simp at hu; rcases hu with rfl | rfl <;> rfl) (fun h => by cases h) (.inr (fun e => by
          have hlt := (World.ownsRow.lt ((HV.out.below HB1.out).below HA2.out.be) _ e.symm).2
          exact Nat.lt_irrefl _ hlt)) (by omega) (by have := HL.out; omega) (by have := HL.out; omega) (Nat.zero_le _))
        rw [← HL.out] at HREP
        clear HROW HV1
        go_wp2_with fail
        refine HREP.out.mono ?_
        rintro _ w5 ⟨v5, rfl, hrow, hg, hnb⟩
        have HADD := hid (HF0.out v5 w5 hrow hg hnb)
        obtain ⟨g5, cap5, cur5, rfl, -⟩ := Row.at hrow (by omega)
        generalize 0 + 1 + (len - (0)) = m5 at hrow HADD ⊢
        have hp5 : w5.heap[pb]? = some (.cells cs 68 (0, 0)) := by
          have hx : (Value.ownBlock (.slice a len cap)) ≠ some pb := fun e => by
            rcases HV.out.2 with ⟨h, _⟩ | ⟨g', cap', cur', h, _, hgg, _⟩
            · rw [h] at e; cases e
            · rw [h] at e
              simp [Value.ownBlock] at e
              rw [e, HP.out] at hgg
              simp at hgg
          have hbw := HB1.out.trans (HA2.out.be.mono HB1.out.size)
          rw [hg.block pb (by simp; have := hbw.size; omega) (fun e => hx e.symm), heap_alloc_old _ _ (by have := hbw.size; omega), hbw.block pb hpl]
          exact HP.out
        have d0 : w5.cell? ⟨pb, off, none⟩ = some (.slice a len cap) := by rw [cell_of_row _ _ _ _ _ _ hp5]; exact HO.out
        have d1 : w5.frozen? ⟨pb, off, none⟩ = false := frozen_of_row _ _ _ _ _ hp5
        clear hrow hg hnb hp5 k0 k1 k2 k3
        go_wp2_with fail
        go_ret
        exact .inr ⟨rfl, HNM.out, HADD.out⟩
end Go.Proofs.Ytahoileampdnkaa
