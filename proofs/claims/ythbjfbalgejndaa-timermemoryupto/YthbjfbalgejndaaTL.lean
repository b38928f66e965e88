import Derived.Test.YthbjfbalgejndaaTK
namespace Go.Proofs.Ythbjfbalgejndaa.H

def insL (l : List Dl) : List Dl := l.foldl (fun S d => ins d S) []

theorem mem_insL (l : List Dl) : ∀ x, x ∈ insL l ↔ x ∈ l := by
  have key : ∀ (l S : List Dl) x, x ∈ l.foldl (fun S d => ins d S) S ↔ x ∈ l ∨ x ∈ S := by
    intro l
    induction l with
    | nil => intro S x; simp
    | cons d r ih =>
      intro S x
      rw [List.foldl_cons, ih, mem_ins, List.mem_cons]
      constructor
      · rintro (h | h | h)
        · exact .inl (.inr h)
        · exact .inl (.inl h)
        · exact .inr h
      · rintro ((h | h) | h)
        · exact .inr (.inl h)
        · exact .inl h
        · exact .inr (.inr h)
  intro x
  have := key l [] x
  simpa [insL] using this

theorem insL_snoc {l : List Dl} {k : Nat} {d : Dl} (h : l[k]? = some d) : insL (l.take (k + 1)) = ins d (insL (l.take k)) := by
  unfold insL
  rw [List.take_add_one, h, List.foldl_append]
  rfl

theorem insL_sorted {l : List Dl} (h : Ids l) : (insL l).Pairwise Lt := by
  have key : ∀ (r S : List Dl), Ids r → S.Pairwise Lt → (∀ x ∈ S, ∀ y ∈ r, x.1 ≠ y.1) → (r.foldl (fun S d => ins d S) S).Pairwise Lt := by
    intro r
    induction r with
    | nil => intro S _ hS _; exact hS
    | cons d r ih =>
      intro S hr hS hx
      obtain ⟨h1, h2⟩ := List.pairwise_cons.1 hr
      refine ih _ h2 (ins_sorted hS (fun x hxS => hx x hxS d List.mem_cons_self)) (fun x hxs y hy => ?_)
      rcases mem_ins.1 hxs with rfl | hxs
      · exact h1 y hy
      · exact hx x hxs y (List.mem_cons_of_mem _ hy)
  exact key l [] h List.Pairwise.nil (by simp)

theorem insL_len (l : List Dl) : (insL l).length = l.length := by
  have key : ∀ (l S : List Dl), (l.foldl (fun S d => ins d S) S).length = S.length + l.length := by
    intro l
    induction l with
    | nil => intro S; simp
    | cons d r ih => intro S; rw [List.foldl_cons, ih, length_ins, List.length_cons]; omega
  have := key l []
  simpa [insL] using this

theorem ids_take {l : List Dl} (h : Ids l) (k : Nat) : Ids (l.take k) := List.Pairwise.sublist (List.take_sublist k l) h

/-- Where it comes to stand. -/
theorem ins_split {d : Dl} : ∀ {A B : List Dl}, (∀ x ∈ A, ¬ Lt d x) → (∀ x ∈ B, Lt d x) → ins d (A ++ B) = A ++ d :: B
  | [], B, _, hB => by
    cases B with
    | nil => rfl
    | cons y r => simp [ins, hB y List.mem_cons_self]
  | x :: A, B, hA, hB => by
    have h1 := hA x List.mem_cons_self
    rw [List.cons_append, List.cons_append]
    unfold ins
    rw [if_neg h1, ins_split (fun y hy => hA y (List.mem_cons_of_mem _ hy)) hB]

theorem at_mid (A B : List Dl) (d : Dl) : at' (A ++ d :: B) A.length = d := by
  unfold at'
  rw [List.getD_eq_getElem?_getD, List.getElem?_append_right (Nat.le_refl _), Nat.sub_self]
  rfl
end Go.Proofs.Ythbjfbalgejndaa.H
namespace Go.Proofs.Ythbjfbalgejndaa
open Go.ChangeShapes Go.WideShapes Go.ChangeAt Go.RowKit Go.Maps H
set_option maxHeartbeats 1000000
set_option maxRecDepth 100000

theorem pahead_any (d e : Dl) (w : World) :
    Calls Try.prog 28 #[.agg #[.int .i64 d.1, .int .i64 d.2], .agg #[.int .i64 e.1, .int .i64 e.2]] w fun r w' => r = .returned (.bool (decide (Lt d e))) ∧ Below w.heap.size w w' := by
  obtain ⟨x, a⟩ := d
  obtain ⟨y, b⟩ := e
  obtain ⟨wa, hwa⟩ : ∃ wa, wa = w.alloc (.cells #[.int .i64 x, .int .i64 a] 35) := ⟨_, rfl⟩
  obtain ⟨wb, hwb⟩ : ∃ wb, wb = wa.alloc (.cells #[.int .i64 y, .int .i64 b] 35) := ⟨_, rfl⟩
  have hsa : wa.heap.size = w.heap.size + 1 := by rw [hwa]; simp
  have hba : Below w.heap.size w wa := by rw [hwa]; exact (Below.refl _ _).alloc (Nat.le_refl _) _
  have hbb : Below wa.heap.size wa wb := by rw [hwb]; exact (Below.refl _ _).alloc (Nat.le_refl _) _
  have hr1 : wb.heap[w.heap.size]? = some (.cells #[.int .i64 x, .int .i64 a] 35 (0, 0)) := by rw [hbb.block _ (by omega), hwa]; exact heap_alloc_new w _
  have hr2 : wb.heap[w.heap.size + 1]? = some (.cells #[.int .i64 y, .int .i64 b] 35 (0, 0)) := by
    have := heap_alloc_new wa (.cells #[.int .i64 y, .int .i64 b] 35)
    rw [← hwb, hsa] at this
    exact this
  have c0 : wb.cell? ⟨w.heap.size, 0, none⟩ = some (.int .i64 x) := by rw [cell_of_row _ _ _ _ _ _ hr1]; rfl
  have c1 : wb.cell? ⟨w.heap.size, 1, none⟩ = some (.int .i64 a) := by rw [cell_of_row _ _ _ _ _ _ hr1]; rfl
  have d0 : wb.cell? ⟨w.heap.size + 1, 0, none⟩ = some (.int .i64 y) := by rw [cell_of_row _ _ _ _ _ _ hr2]; rfl
  have d1 : wb.cell? ⟨w.heap.size + 1, 1, none⟩ = some (.int .i64 b) := by rw [cell_of_row _ _ _ _ _ _ hr2]; rfl
  have HWB : Hid (wb = (w.alloc (.cells #[.int .i64 x, .int .i64 a] 35)).alloc (.cells #[.int .i64 y, .int .i64 b] 35)) := by unfold Hid; rw [hwb, hwa]
  have HB : Hid (Below w.heap.size w wb) := hba.trans (hbb.mono (by omega))
  have HL : Hid (Lt (x, a) (y, b) ↔ (a < b ∨ a = b ∧ x < y)) := Iff.rfl
  generalize hD : decide (Lt (x, a) (y, b)) = D at *
  have HD := hid hD
  clear hwa hwb hsa hba hbb hr1 hr2 hD
  by_cases hab : a < b
  · have HE : Hid (D = true) := by unfold Hid; rw [← HD.out]; exact decide_eq_true (by rw [HL.out]; omega)
    go_enter Try.func28, Try.ntmps28
    go_upto_region 1 with fail
    rw [← HWB.out]
    go_wp2_with fail
    go_ret
    exact ⟨ret_bool HE.out.symm, HB.out⟩
  · by_cases heq : a = b
    · have hq : (a == b) = true := by simp [heq]
      have HE : Hid (D = decide (x < y)) := by unfold Hid; rw [← HD.out]; exact decide_eq_decide.2 (by rw [HL.out]; omega)
      have hab' : ¬ a < b := hab
      clear heq hab
      go_enter Try.func28, Try.ntmps28
      go_upto_region 1 with fail
      rw [← HWB.out]
      go_wp2_with fail
      go_ret
      exact ⟨ret_bool HE.out.symm, HB.out⟩
    · have hq : (a == b) = false := by simp [heq]
      have HE : Hid (D = false) := by unfold Hid; rw [← HD.out]; exact decide_eq_false (by rw [HL.out]; omega)
      clear heq
      go_enter Try.func28, Try.ntmps28
      go_upto_region 1 with fail
      rw [← HWB.out]
      go_wp2_with fail
      go_ret
      exact ⟨ret_bool HE.out.symm, HB.out⟩

theorem OwnP.set2 {w : World} {base n g cap : Nat} {L : List Dl} (h : OwnP w base (.slice (some ⟨g, 0, none⟩) n cap) L) (j : Nat) (hj : j < L.length) (d : Dl) : OwnP ((w.setCell ⟨g, j * 2, none⟩ (.int .i64 d.1)).setCell ⟨g, j * 2 + 1, none⟩ (.int .i64 d.2)) base (.slice (some ⟨g, 0, none⟩) n cap) (L.set j d) ∧ Below base w ((w.setCell ⟨g, j * 2, none⟩ (.int .i64 d.1)).setCell ⟨g, j * 2 + 1, none⟩ (.int .i64 d.2)) := by
  rcases h.2 with ⟨h1, _⟩ | ⟨g', cap', cur, e, hb, hg, hnc, hcm, hcs, ht⟩
  · cases h1
  · cases e
    have h2 := heap_setCell_same w g (j * 2) cur 35 (.int .i64 d.1) hg
    have h3 := heap_setCell_same _ g (j * 2 + 1) _ 35 (.int .i64 d.2) h2
    refine ⟨⟨by rw [ds_len], .inr ⟨g, cap, _, by rw [List.length_set], hb, h3, by rw [List.length_set]; exact hnc, hcm, by simpa using hcs, ?_⟩⟩, ((Below.refl _ _).setCell (p := ⟨g, j * 2, none⟩) hb _).setCell (p := ⟨g, j * 2 + 1, none⟩) hb _⟩
    rw [List.length_set, ds_set L j _ hj]
    simp only [Array.toList_setIfInBounds, List.take_set]
    rw [ht]

set_option maxHeartbeats 2000000 in
theorem inOrder_any (v : Value) (L : List Dl) (w : World) (hv : SeesP w v L) (hl : L.length ≤ 8796093022208) (hids : Ids L) :
    Calls Try.prog 18 #[v] w fun e w' => ∃ v', e = .returned v' ∧ OwnP w' w.heap.size v' (insL L) ∧ Below w.heap.size w w' := by
  obtain ⟨i0, hi0, hz0, hz1, hz2⟩ := info_parts info35
  have HI : Hid (Try.prog.info? 35 = some i0) := hi0
  obtain ⟨ao, n, cap, rfl, HN, hn1, hn2⟩ := hv.shape
  have hnl : n ≤ 8796093022208 := by have := HN.out; omega
  have HV := hid hv
  have HIDS := hid hids
  unfold maxLen at hn2
  clear hv hl hi0 hids
  go_enter Try.func18, Try.ntmps18
  go_wp2_with fail
  go_loopw [3, 4] (fun t i wv => ∃ (k : Nat) (a1 : Option Addr) (c1 : Nat) (wr : World), wr = wv ∧ t = .slice a1 k c1 ∧ i = .int .i64 k ∧ k ≤ n ∧ Hid (OwnP wr w.heap.size (.slice a1 k c1) (insL (L.take k))) ∧ Hid (Below w.heap.size w wr)) (fun _ i _ => n - (intOf i).toNat)
  case atStart => exact ⟨0, none, 0, _, rfl, rfl, rfl, by omega, ownP_nil _ _, Below.refl _ _⟩
  case round =>
    obtain ⟨k, a1, c1, u, rfl, rfl, rfl, hk, HO, HB⟩ := hrel
    by_cases hlt : k < n
    · obtain ⟨g0, o0, d, rfl, hg0, e0, e1, hd, HD⟩ := (HV.out.below HB.out).at k hlt
      have HSN : Hid (insL (L.take (k + 1)) = ins d (insL (L.take k))) := insL_snoc HD.out
      have HSRT : Hid ((insL (L.take k)).Pairwise Lt) := insL_sorted (ids_take HIDS.out k)
      have HLEN : Hid ((insL (L.take k)).length = k) := by unfold Hid; rw [insL_len, List.length_take]; have := HN.out; omega
      have HO3 : Hid (u.ownsRow w.heap.size 35 2 (.slice a1 k c1) k (ds (insL (L.take k)))) := by
        have h1 := HO.out
        unfold OwnP at h1
        rw [HLEN.out] at h1
        exact h1
      generalize insL (L.take k) = S at *
      generalize hl' : insL (L.take (k + 1)) = S' at *
      have HLE := hid hl'
      clear hl' HO
      have HX : Hid (w.heap.size ≤ u.heap.size) := HB.out.size
      go_wp2_with (at_builtin; refine wpList_append_own _ rfl _ _ 25 rfl w.heap.size 35 i0 (.agg #[.int .i64 0, .int .i64 0]) 2 16 Try.underlying25 HI.out hz0 hz1 hz2 rfl (by decide) _ _ _ rfl (HO3.out.alloc _) ⟨u.heap.size, 0, none⟩ 1 1 [.int .i64 d.1, .int .i64 d.2] rfl rfl ?c1 ?c2 ?c3 ?c4 ?c5 ?_)
      case c1 => exact two_new _ _ _ _
      case c2 => intro y hy; simp at hy; rcases hy with rfl | rfl <;> rfl
      case c3 => unfold maxLen; omega
      case c4 => omega
      case c5 => have := HX.out; simp; omega
      intro v' w3 ho3 hg3 _
      obtain ⟨a3, c3, rfl⟩ : ∃ a3 c3, v' = .slice a3 (k + 1) c3 := by
        rcases ho3.2 with ⟨h, hn⟩ | ⟨g, cap, cur, h, _⟩
        · omega
        · exact ⟨_, _, h⟩
      have HO4 : Hid (OwnP w3 w.heap.size (.slice a3 (k + 1) c3) (S ++ d :: [])) := by
        unfold Hid OwnP
        rw [List.length_append, HLEN.out, ds_append]
        exact ho3
      have HB4 : Hid (Below w.heap.size w w3) := ((HB.out.alloc HB.out.size _).grown hg3 (by have := HX.out; simp; omega) (fun j hj => (HO3.out.lt j hj).1))
      clear ho3 hg3 HO3 e0 e1
      go_wp2_with fail
      go_loopw [5] (fun i wv => ∃ (j : Nat) (A B : List Dl) (wr : World), wr = wv ∧ i = .int .i64 j ∧ j ≤ k ∧ Hid (A.length = j) ∧ Hid (A ++ B = S) ∧ Hid (∀ x ∈ B, Lt d x) ∧ Hid (OwnP wr w.heap.size (.slice a3 (k + 1) c3) (A ++ d :: B)) ∧ Hid (Below w.heap.size w wr)) (fun i _ => (intOf i).toNat)
      case atStart => exact ⟨k, S, [], _, rfl, by go_num, by omega, HLEN, by simp [Hid], by simp [Hid], HO4, HB4⟩
      case round =>
        clear HO4 HB4 HB
        obtain ⟨j, A, B, x, rfl, rfl, hj, HA, HAB, HBB, HO, HB⟩ := hrel
        have HLL : Hid ((A ++ d :: B).length = k + 1) := by
          have h1 := congrArg List.length HAB.out
          rw [List.length_append, HLEN.out] at h1
          unfold Hid
          rw [List.length_append, List.length_cons]
          omega
        have HFIN : Hid ((∀ y ∈ A, ¬ Lt d y) → S' = A ++ d :: B) := fun hA => by
          rw [HSN.out, ← HAB.out]
          exact ins_split hA HBB.out
        obtain ⟨g1, hg1, hgb, hgl, hfz, hcell⟩ := HO.out.grip (by rw [HLL.out]; omega)
        subst hg1
        by_cases hj0 : 0 < j
        · obtain ⟨A', a, rfl⟩ : ∃ A' a, A = A' ++ [a] := ⟨A.dropLast, A.getLast (fun e => by have := HA.out; rw [e] at this; simp at this; omega), (List.dropLast_concat_getLast _).symm⟩
          have hA' : A'.length = j - 1 := by have := HA.out; simp at this; omega
          obtain ⟨r, hr⟩ : ∃ r, r = j - 1 := ⟨_, rfl⟩
          have er : (j : Int) - 1 = (r : Int) := by omega
          have hjr : j = r + 1 := by omega
          have atj : at' (A' ++ [a] ++ d :: B) j = d := by have := at_mid (A' ++ [a]) B d; rwa [HA.out] at this
          have atr : at' (A' ++ [a] ++ d :: B) r = a := by
            have := at_mid A' (d :: B) a
            rw [hA', ← hr] at this
            rw [List.append_assoc]
            exact this
          obtain ⟨c0, c1'⟩ := hcell j (by rw [HLL.out]; omega)
          obtain ⟨d0, d1⟩ := hcell r (by rw [HLL.out]; omega)
          rw [atj] at c0 c1'
          rw [atr] at d0 d1
          have q0 : ∀ t : Beh x, t.wd.cell? ⟨g1, j * 2, none⟩ = some (.int .i64 d.1) := fun t => (t.ok.cell (p := ⟨g1, _, none⟩) hgl).trans c0
          have q1 : ∀ t : Beh x, t.wd.cell? ⟨g1, j * 2 + 1, none⟩ = some (.int .i64 d.2) := fun t => (t.ok.cell (p := ⟨g1, _, none⟩) hgl).trans c1'
          have p0 : ∀ t : Beh x, t.wd.cell? ⟨g1, r * 2, none⟩ = some (.int .i64 a.1) := fun t => (t.ok.cell (p := ⟨g1, _, none⟩) hgl).trans d0
          have p1 : ∀ t : Beh x, t.wd.cell? ⟨g1, r * 2 + 1, none⟩ = some (.int .i64 a.2) := fun t => (t.ok.cell (p := ⟨g1, _, none⟩) hgl).trans d1
          have HAH : Hid (∀ t : Beh x, Calls Try.prog 28 #[.agg #[.int .i64 d.1, .int .i64 d.2], .agg #[.int .i64 a.1, .int .i64 a.2]] t.wd fun e w' => e = .returned (.bool (decide (Lt d a))) ∧ ∃ t' : Beh x, w' = t'.wd) := fun t => Calls.beh (pahead_any _ _ _)
          have hqg : decide ((0 : Int) < (j : Int)) = true := by simp; omega
          have hrk : r < k + 1 := by omega
          have hjk : j < k + 1 := by omega
          clear c0 c1' d0 d1 hcell
          by_cases hda : Lt d a
          · rw [decide_eq_true hda] at HAH
            have s1 : (A' ++ [a] ++ d :: B).set j a = A' ++ [a] ++ a :: B := by rw [← HA.out, List.set_append_right _ _ (Nat.le_refl _), Nat.sub_self]; rfl
            have s2 : (A' ++ [a] ++ a :: B).set r d = A' ++ d :: a :: B := by
              rw [List.append_assoc, hr, ← hA', List.set_append_right _ _ (Nat.le_refl _), Nat.sub_self]; rfl
            have HST : Hid (∀ t : Beh x, ∃ x1 x2 x3, x1 = t.wd.alloc (.cells #[.int .i64 d.1, .int .i64 d.2] 35) ∧ x2 = (x1.setCell ⟨g1, j * 2, none⟩ (.int .i64 a.1)).setCell ⟨g1, j * 2 + 1, none⟩ (.int .i64 a.2) ∧ x3 = (x2.setCell ⟨g1, r * 2, none⟩ (.int .i64 d.1)).setCell ⟨g1, r * 2 + 1, none⟩ (.int .i64 d.2) ∧
                (x1.cell? ⟨g1, r * 2, none⟩ = some (.int .i64 a.1) ∧ x1.cell? ⟨g1, r * 2 + 1, none⟩ = some (.int .i64 a.2)) ∧ ((∃ y, x1.cell? ⟨g1, j * 2, none⟩ = some (.int .i64 y)) ∧ ∃ y, x1.cell? ⟨g1, j * 2 + 1, none⟩ = some (.int .i64 y)) ∧ (x1.frozen? ⟨g1, j * 2, none⟩ = false ∧ x1.frozen? ⟨g1, j * 2 + 1, none⟩ = false) ∧
                (x2.cell? ⟨t.wd.heap.size, 0, none⟩ = some (.int .i64 d.1) ∧ x2.cell? ⟨t.wd.heap.size, 1, none⟩ = some (.int .i64 d.2)) ∧ ((∃ y, x2.cell? ⟨g1, r * 2, none⟩ = some (.int .i64 y)) ∧ ∃ y, x2.cell? ⟨g1, r * 2 + 1, none⟩ = some (.int .i64 y)) ∧ (x2.frozen? ⟨g1, r * 2, none⟩ = false ∧ x2.frozen? ⟨g1, r * 2 + 1, none⟩ = false) ∧
                OwnP x3 w.heap.size (.slice (some ⟨g1, 0, none⟩) (k + 1) c3) (A' ++ d :: a :: B) ∧ Below w.heap.size w x3) := fun t => by
              obtain ⟨x1, hx1⟩ : ∃ x1, x1 = t.wd.alloc (.cells #[.int .i64 d.1, .int .i64 d.2] 35) := ⟨_, rfl⟩
              have hb1 : Below t.wd.heap.size t.wd x1 := by rw [hx1]; exact (Below.refl _ _).alloc (Nat.le_refl _) _
              have hbx : x1.heap[t.wd.heap.size]? = some (.cells #[.int .i64 d.1, .int .i64 d.2] 35 (0, 0)) := by rw [hx1]; exact heap_alloc_new _ _
              have hO1 := (HO.out.below t.ok).below hb1
              obtain ⟨g, hg, hgb1, hgl1, hfz1, hc1⟩ := hO1.grip (by rw [HLL.out]; omega)
              cases hg
              obtain ⟨m0, m1⟩ := hc1 j (by rw [HLL.out]; omega)
              obtain ⟨l0, l1⟩ := hc1 r (by rw [HLL.out]; omega)
              rw [atr] at l0 l1
              obtain ⟨hO2, hb2⟩ := hO1.set2 j (by rw [HLL.out]; omega) a
              rw [s1] at hO2
              obtain ⟨x2, hx2⟩ : ∃ x2, x2 = (x1.setCell ⟨g1, j * 2, none⟩ (.int .i64 a.1)).setCell ⟨g1, j * 2 + 1, none⟩ (.int .i64 a.2) := ⟨_, rfl⟩
              rw [← hx2] at hO2 hb2
              have hl2 : (A' ++ [a] ++ a :: B).length = k + 1 := by rw [← HLL.out]; simp
              obtain ⟨g', hg', _, _, hfz2, hc2⟩ := hO2.grip (by rw [hl2]; omega)
              cases hg'
              obtain ⟨n0, n1⟩ := hc2 r (by rw [hl2]; omega)
              have hne : g1 ≠ t.wd.heap.size := by have := t.ok.size; omega
              have hbx2 : x2.heap[t.wd.heap.size]? = some (.cells #[.int .i64 d.1, .int .i64 d.2] 35 (0, 0)) := by
                have hfr : Fr [g1] x1 x2 := by rw [hx2]; exact ((Fr.refl [g1] x1).set (by simp)).set (by simp)
                exact (hfr.block _ (Array.getElem?_eq_some_iff.1 hbx).1 (by simpa using hne.symm)).trans hbx
              obtain ⟨hO3, hb3⟩ := hO2.set2 r (by rw [hl2]; omega) d
              rw [s2] at hO3
              have hbw1 : Below w.heap.size w x1 := (HB.out.trans (t.ok.mono HB.out.size)).trans (hb1.mono (by have := HB.out.size; have := t.ok.size; omega))
              exact ⟨x1, x2, _, hx1, hx2, rfl, ⟨l0, l1⟩, ⟨⟨_, m0⟩, ⟨_, m1⟩⟩, ⟨hfz1 _, hfz1 _⟩, ⟨by rw [cell_of_row _ _ _ _ _ _ hbx2]; rfl, by rw [cell_of_row _ _ _ _ _ _ hbx2]; rfl⟩, ⟨⟨_, n0⟩, ⟨_, n1⟩⟩, ⟨hfz2 _, hfz2 _⟩, hO3, (hbw1.trans hb2).trans hb3⟩
            have HA2 : Hid (A'.length = r) := by unfold Hid; omega
            have HAB2 : Hid (A' ++ a :: B = S) := by unfold Hid; rw [← HAB.out, List.append_assoc]; rfl
            have HBB2 : Hid (∀ y ∈ a :: B, Lt d y) := fun y hy => by
              rcases List.mem_cons.1 hy with rfl | hy
              · exact hda
              · exact HBB.out y hy
            clear hda hA' hr hjr atj atr hfz s1 s2
            generalize hd1 : d.1 = z0 at *
            generalize hd2 : d.2 = z1 at *
            generalize a.1 = y0 at *
            generalize a.2 = y1 at *
            clear hd1 hd2
            go_upto_region 7 with fail
            refine wp_region_beh (by kernel_rfl) (by kernel_rfl) ?_
            repeat (go_big_quiet_step (first | (go_at_call 28; exact HAH.out _)))
            refine wpQuiet_nil ?_
            rintro _ ⟨t, rfl⟩
            obtain ⟨x1, x2, x3, hx1, hx2, hx3, ⟨l0, l1⟩, ⟨⟨y2, m0⟩, ⟨y3, m1⟩⟩, ⟨fz0, fz1⟩, ⟨b0, b1⟩, ⟨⟨y4, n0⟩, ⟨y5, n1⟩⟩, ⟨fz2, fz3⟩, hO3, hB3⟩ := HST.out t
            have HX1 := hid hx1
            have HX2 := hid hx2
            have HX3 := hid hx3
            have HO3 := hid hO3
            have HB3 := hid hB3
            clear hx1 hx2 hx3 hO3 hB3 HST
            go_upto_region 10 with fail
            rw [← HX1.out]
            clear q0 q1 p0 p1
            go_upto_region 11 with fail
            rw [← HX2.out]
            clear l0 l1 m0 m1 fz0 fz1
            go_upto_region 8 with fail
            rw [← HX3.out]
            clear b0 b1 n0 n1 fz2 fz3
            go_wp2_with fail
            go_roundw
            case rel => exact ⟨r, A', a :: B, _, rfl, by go_num, by omega, HA2, HAB2, HBB2, HO3, HB3⟩
            case measure => simp [intOf]; omega
          · rw [decide_eq_false hda] at HAH
            have HS' : Hid (S' = A' ++ [a] ++ d :: B) := HFIN.out (fun y hy => by
              rcases List.mem_append.1 hy with hy | hy
              · intro hdy
                have hsrt := HSRT.out
                rw [← HAB.out, List.append_assoc] at hsrt
                have := (List.pairwise_append.1 hsrt).2.2 y hy a (by simp)
                exact hda (hdy.trans this)
              · rw [List.mem_singleton.1 hy]; exact hda)
            clear hda hA' hr hjr atj atr hfz
            generalize hd1 : d.1 = z0 at *
            generalize hd2 : d.2 = z1 at *
            generalize a.1 = y0 at *
            generalize a.2 = y1 at *
            clear hd1 hd2
            go_upto_region 7 with fail
            refine wp_region_beh (by kernel_rfl) (by kernel_rfl) ?_
            repeat (go_big_quiet_step (first | (go_at_call 28; exact HAH.out _)))
            refine wpQuiet_nil ?_
            rintro _ ⟨t, rfl⟩
            have HO3 : Hid (OwnP t.wd w.heap.size (.slice (some ⟨g1, 0, none⟩) (k + 1) c3) S') := by rw [HS'.out]; exact HO.out.below t.ok
            have HB3 := hid (HB.out.trans (t.ok.mono HB.out.size))
            go_wp2_with fail
            go_roundw
            case rel => exact ⟨k + 1, _, _, _, rfl, rfl, by go_num, by omega, by rw [HLE.out]; exact HO3, HB3⟩
            case measure => simp [intOf]; omega
        · obtain rfl : j = 0 := by omega
          have HS' : Hid (S' = A ++ d :: B) := HFIN.out (fun y hy => by
            have := HA.out
            rw [List.eq_nil_of_length_eq_zero this] at hy
            cases hy)
          have HO3 : Hid (OwnP x w.heap.size (.slice (some ⟨g1, 0, none⟩) (k + 1) c3) S') := by rw [HS'.out]; exact HO.out
          clear hfz hcell
          go_upto_region 7 with fail
          refine wp_region_beh (by kernel_rfl) (by kernel_rfl) ?_
          repeat (go_big_quiet_step (fail))
          refine wpQuiet_nil ?_
          rintro _ ⟨t, rfl⟩
          have HO4 : Hid (OwnP t.wd w.heap.size (.slice (some ⟨g1, 0, none⟩) (k + 1) c3) S') := HO3.out.below t.ok
          have HB3 := hid (HB.out.trans (t.ok.mono HB.out.size))
          go_wp2_with fail
          go_roundw
          case rel => exact ⟨k + 1, _, _, _, rfl, rfl, by go_num, by omega, by rw [HLE.out]; exact HO4, HB3⟩
          case measure => simp [intOf]; omega
    · have HE : Hid (insL (L.take k) = insL L) := by unfold Hid; rw [List.take_of_length_le (by have := HN.out; omega)]
      rw [HE.out] at HO
      go_wp2_with fail
      go_ret
      exact ⟨_, rfl, HO.out, HB.out⟩
end Go.Proofs.Ythbjfbalgejndaa
