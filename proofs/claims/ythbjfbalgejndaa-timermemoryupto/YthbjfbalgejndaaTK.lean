import Derived.Test.YthbjfbalgejndaaTJ
namespace Go.Proofs.Ythbjfbalgejndaa.H

/-- Ids apart. -/
def Ids (l : List Dl) : Prop := l.Pairwise fun x y => x.1 ≠ y.1

def has' (l : List Dl) (i : Int) : Bool := l.any fun x => x.1 == i

/-- A pair more: the last time of its id. -/
def upL (l : List Dl) (d : Dl) : List Dl := if has' l d.1 then l.map (fun x => if x.1 = d.1 then d else x) else l ++ [d]

def lastL (items : List Dl) : List Dl := items.foldl upL []

theorem has'_iff {l : List Dl} {i : Int} : has' l i = true ↔ ∃ x ∈ l, x.1 = i := by unfold has'; simp

theorem mem_upL {l : List Dl} {d x : Dl} : x ∈ upL l d ↔ x = d ∨ (x ∈ l ∧ x.1 ≠ d.1) := by
  unfold upL
  cases h : has' l d.1 with
  | true =>
    rw [if_pos rfl, List.mem_map]
    obtain ⟨y, hy, ey⟩ := has'_iff.1 h
    constructor
    · rintro ⟨z, hz, e⟩
      by_cases hzd : z.1 = d.1
      · rw [if_pos hzd] at e; exact .inl e.symm
      · rw [if_neg hzd] at e; subst e; exact .inr ⟨hz, hzd⟩
    · rintro (rfl | ⟨hx, hne⟩)
      · exact ⟨y, hy, by rw [if_pos ey]⟩
      · exact ⟨x, hx, by rw [if_neg hne]⟩
  | false =>
    rw [if_neg (by simp)]
    have hno : ∀ y ∈ l, y.1 ≠ d.1 := fun y hy e => by
      have := has'_iff.2 ⟨y, hy, e⟩
      rw [h] at this; cases this
    rw [List.mem_append, List.mem_singleton]
    constructor
    · rintro (hx | rfl)
      · exact .inr ⟨hx, hno x hx⟩
      · exact .inl rfl
    · rintro (rfl | ⟨hx, _⟩)
      · exact .inr rfl
      · exact .inl hx

theorem upL_ids {l : List Dl} (h : Ids l) (d : Dl) : Ids (upL l d) := by
  unfold upL
  cases hh : has' l d.1 with
  | true =>
    rw [if_pos rfl]
    unfold Ids
    refine List.pairwise_map.2 (h.imp ?_)
    intro x y hxy
    by_cases hx : x.1 = d.1 <;> by_cases hy : y.1 = d.1 <;> simp [hx, hy] <;> omega
  | false =>
    rw [if_neg (by simp)]
    refine List.pairwise_append.2 ⟨h, by simp, fun x hx y hy => ?_⟩
    rw [List.mem_singleton.1 hy]
    intro e
    have := has'_iff.2 ⟨x, hx, e⟩
    rw [hh] at this; cases this

theorem upL_len (l : List Dl) (d : Dl) : (upL l d).length ≤ l.length + 1 := by
  unfold upL; split <;> simp

theorem fold_len (items : List Dl) : ∀ l, (items.foldl upL l).length ≤ l.length + items.length := by
  induction items with
  | nil => intro l; simp
  | cons d r ih => intro l; have := ih (upL l d); have := upL_len l d; simp only [List.foldl_cons, List.length_cons]; omega

theorem fold_ids (items : List Dl) : ∀ l, Ids l → Ids (items.foldl upL l) := by
  induction items with
  | nil => intro l h; exact h
  | cons d r ih => intro l h; exact ih _ (upL_ids h d)

theorem lastL_len (items : List Dl) : (lastL items).length ≤ items.length := by have := fold_len items []; simpa [lastL] using this
theorem lastL_ids (items : List Dl) : Ids (lastL items) := fold_ids items [] List.Pairwise.nil

theorem lastL_snoc {items : List Dl} {k : Nat} {d : Dl} (h : items[k]? = some d) : lastL (items.take (k + 1)) = upL (lastL (items.take k)) d := by
  unfold lastL
  rw [List.take_add_one, h, List.foldl_append]
  rfl

/-- At the one place where the id stands. -/
theorem upL_at {l : List Dl} (h : Ids l) {j : Nat} (hj : j < l.length) {d : Dl} (hd : (at' l j).1 = d.1) : upL l d = l.set j d := by
  have hget : l[j]? = some (at' l j) := at_get hj
  have hm : at' l j ∈ l := List.mem_iff_getElem?.2 ⟨j, hget⟩
  unfold upL
  rw [if_pos (has'_iff.2 ⟨_, hm, hd⟩)]
  apply List.ext_getElem?
  intro k
  rw [List.getElem?_map]
  by_cases hk : k = j
  · subst hk
    rw [List.getElem?_set_self hj, hget]
    simp [hd]
  · rw [List.getElem?_set_ne (Ne.symm hk)]
    cases hlk : l[k]? with
    | none => rfl
    | some y =>
      have hne : y.1 ≠ d.1 := by
        obtain ⟨hk1, ek⟩ := List.getElem?_eq_some_iff.1 hlk
        have ej : l[j] = at' l j := by
          have := List.getElem?_eq_getElem hj
          rw [hget] at this
          exact (Option.some.inj this).symm
        rw [← hd, ← ej, ← ek]
        rcases Nat.lt_or_gt_of_ne hk with h1 | h1
        · exact List.pairwise_iff_getElem.1 h k j hk1 hj h1
        · exact (List.pairwise_iff_getElem.1 h j k hj hk1 h1).symm
      simp [hne]

theorem lastL_mem (items : List Dl) : ∀ x ∈ lastL items, x ∈ items := by
  have key : ∀ (r l : List Dl), ∀ x ∈ r.foldl upL l, x ∈ r ∨ x ∈ l := by
    intro r
    induction r with
    | nil => intro l x hx; exact .inr hx
    | cons d r ih =>
      intro l x hx
      rcases ih _ x hx with h | h
      · exact .inl (List.mem_cons_of_mem _ h)
      · rcases mem_upL.1 h with rfl | ⟨h, _⟩
        · exact .inl List.mem_cons_self
        · exact .inr h
  intro x hx
  rcases key items [] x hx with h | h
  · exact h
  · cases h
end Go.Proofs.Ythbjfbalgejndaa.H
namespace Go.Proofs.Ythbjfbalgejndaa
open Go.ChangeShapes Go.WideShapes Go.ChangeAt Go.RowKit Go.Maps H
set_option maxHeartbeats 1000000
set_option maxRecDepth 100000

theorem OwnP.shape {w : World} {base : Nat} {v : Value} {L : List Dl} (h : OwnP w base v L) : ∃ ao cap, v = .slice ao L.length cap := by
  rcases h.2 with ⟨rfl, hn⟩ | ⟨g, cap, cur, rfl, _⟩
  · exact ⟨none, 0, by rw [hn]⟩
  · exact ⟨_, _, rfl⟩

/-- The row of a list of pairs that is not empty. -/
theorem OwnP.grip {w : World} {base n cap : Nat} {ao : Option Addr} {L : List Dl} (h : OwnP w base (.slice ao n cap) L) (hn : 0 < L.length) : ∃ g, ao = some ⟨g, 0, none⟩ ∧ base ≤ g ∧ g < w.heap.size ∧ (∀ j, w.frozen? ⟨g, j, none⟩ = false) ∧ (∀ j, j < L.length → w.cell? ⟨g, j * 2, none⟩ = some (.int .i64 (at' L j).1) ∧ w.cell? ⟨g, j * 2 + 1, none⟩ = some (.int .i64 (at' L j).2)) := by
  rcases h.2 with ⟨_, h0⟩ | ⟨g, cap', cur, e, hb, hg, hnc, hcm, hcs, ht⟩
  · omega
  · cases e
    refine ⟨g, rfl, hb, (Array.getElem?_eq_some_iff.1 hg).1, fun j => frozen_of_row _ _ _ _ _ hg, fun j hj => ?_⟩
    obtain ⟨d1, d2⟩ := ds_at L j hj
    rw [← ht, List.getElem?_take_of_lt (by omega), Array.getElem?_toList] at d1 d2
    exact ⟨by rw [cell_of_row _ _ _ _ _ _ hg]; exact d1, by rw [cell_of_row _ _ _ _ _ _ hg]; exact d2⟩

theorem OwnP.set1 {w : World} {base n g cap : Nat} {L : List Dl} (h : OwnP w base (.slice (some ⟨g, 0, none⟩) n cap) L) (j : Nat) (hj : j < L.length) (a : Int) : OwnP (w.setCell ⟨g, j * 2 + 1, none⟩ (.int .i64 a)) base (.slice (some ⟨g, 0, none⟩) n cap) (L.set j ((at' L j).1, a)) ∧ Below base w (w.setCell ⟨g, j * 2 + 1, none⟩ (.int .i64 a)) := by
  rcases h.2 with ⟨h1, _⟩ | ⟨g', cap', cur, e, hb, hg, hnc, hcm, hcs, ht⟩
  · cases h1
  · cases e
    have h2 := heap_setCell_same w g (j * 2 + 1) cur 35 (.int .i64 a) hg
    refine ⟨⟨by rw [ds_len], .inr ⟨g, cap, _, by rw [List.length_set], hb, h2, by rw [List.length_set]; exact hnc, hcm, by simpa using hcs, ?_⟩⟩, (Below.refl _ _).setCell (p := ⟨g, j * 2 + 1, none⟩) hb _⟩
    rw [List.length_set, ds_set L j _ hj]
    simp only [Array.toList_setIfInBounds, List.take_set]
    rw [ht]
    congr 1
    symm
    apply List.ext_getElem?
    intro k
    by_cases hk : k = j * 2
    · subst hk
      rw [List.getElem?_set_self (by rw [ds_len]; omega), (ds_at L j hj).1]
    · rw [List.getElem?_set_ne (Ne.symm hk)]

set_option maxHeartbeats 2000000 in
theorem last_any (v : Value) (L : List Dl) (w : World) (hv : SeesP w v L) (hl : L.length ≤ 8796093022208) :
    Calls Try.prog 19 #[v] w fun e w' => ∃ v', e = .returned v' ∧ OwnP w' w.heap.size v' (lastL L) ∧ Below w.heap.size w w' := by
  obtain ⟨i0, hi0, hz0, hz1, hz2⟩ := info_parts info35
  have HI : Hid (Try.prog.info? 35 = some i0) := hi0
  obtain ⟨ao, n, cap, rfl, HN, hn1, hn2⟩ := hv.shape
  have hnl : n ≤ 8796093022208 := by have := HN.out; omega
  have HV := hid hv
  unfold maxLen at hn2
  clear hv hl hi0
  go_enter Try.func19, Try.ntmps19
  go_wp2_with fail
  go_loopw [3, 4] (fun t i wv => ∃ (k m : Nat) (a1 : Option Addr) (c1 : Nat) (wr : World), wr = wv ∧ t = .slice a1 m c1 ∧ i = .int .i64 k ∧ k ≤ n ∧ m ≤ k ∧ Hid (m = (lastL (L.take k)).length) ∧ Hid (OwnP wr w.heap.size (.slice a1 m c1) (lastL (L.take k))) ∧ Hid (Below w.heap.size w wr)) (fun _ i _ => n - (intOf i).toNat)
  case atStart => exact ⟨0, 0, none, 0, _, rfl, rfl, rfl, by omega, by omega, rfl, ownP_nil _ _, Below.refl _ _⟩
  case round =>
    obtain ⟨k, m, a1, c1, u, rfl, rfl, rfl, hk, hmk, HM, HO, HB⟩ := hrel
    by_cases hlt : k < n
    · obtain ⟨g0, o0, d, rfl, hg0, e0, e1, hd, HD⟩ := (HV.out.below HB.out).at k hlt
      have HSN : Hid (lastL (L.take (k + 1)) = upL (lastL (L.take k)) d) := lastL_snoc HD.out
      have HIDS : Hid (Ids (lastL (L.take k))) := lastL_ids _
      generalize lastL (L.take k) = l at *
      generalize hl' : lastL (L.take (k + 1)) = l' at *
      have HLE := hid hl'
      clear hl'
      clear e0 e1
      go_wp2_with fail
      go_loopw [5, 6] (fun a j wv => ∃ (q : Nat) (z : Int) (wr : World), wr = wv ∧ a = .int .i64 z ∧ j = .int .i64 q ∧ q ≤ m ∧ Hid ((z = -1 ∧ ∀ p, p < q → (at' l p).1 ≠ d.1) ∨ ∃ p : Nat, p < q ∧ z = (p : Int) ∧ (at' l p).1 = d.1) ∧ Hid (Below u.heap.size u wr)) (fun _ j _ => m - (intOf j).toNat)
      case atStart => exact ⟨0, -1, _, rfl, rfl, rfl, by omega, .inl ⟨rfl, fun p hp => absurd hp (by omega)⟩, Below.refl _ _⟩
      case round =>
        obtain ⟨q, z, x, rfl, rfl, rfl, hq, HQ, HBX⟩ := hrel
        have hB2 : Below w.heap.size w x := HB.out.trans (HBX.out.mono HB.out.size)
        have HO2 : Hid (OwnP x w.heap.size (.slice a1 m c1) l) := HO.out.below HBX.out
        obtain ⟨g0', o0', d', eg, _, e0, e1, _, HD'⟩ := (HV.out.below hB2).at k hlt
        simp at eg
        obtain ⟨rfl, rfl⟩ := eg
        obtain rfl : d' = d := by have := HD'.out; rw [HD.out] at this; exact (Option.some.inj this).symm
        have HBW := hid hB2
        clear hB2 HD'
        by_cases hqm : q < m
        · have hlm := HM.out
          obtain ⟨g1, rfl, _, _, _, hcell⟩ := HO2.out.grip (by omega)
          obtain ⟨f0, f1⟩ := hcell q (by omega)
          by_cases heq : (at' l q).1 = d'.1
          · have hqe : ((at' l q).1 == d'.1) = true := by simp [heq]
            have HQ2 : Hid ((((q : Nat) : Int) = -1 ∧ ∀ p, p < q + 1 → (at' l p).1 ≠ d'.1) ∨ ∃ p : Nat, p < q + 1 ∧ ((q : Nat) : Int) = (p : Int) ∧ (at' l p).1 = d'.1) := .inr ⟨q, by omega, rfl, heq⟩
            clear heq hcell f1 hlm
            generalize (at' l q).1 = y at *
            generalize d'.1 = y' at *
            go_wp2
            go_region
            go_wp2
            go_roundw
            case rel => exact ⟨q + 1, q, _, rfl, rfl, by go_num, by omega, HQ2, below_drew HBX.out⟩
            case measure => simp [intOf]; omega
          · have hqe : ((at' l q).1 == d'.1) = false := by simp [heq]
            have HQ2 : Hid ((z = -1 ∧ ∀ p, p < q + 1 → (at' l p).1 ≠ d'.1) ∨ ∃ p : Nat, p < q + 1 ∧ z = (p : Int) ∧ (at' l p).1 = d'.1) := by
              rcases HQ.out with ⟨h1, h2⟩ | ⟨p, h1, h2, h3⟩
              · refine .inl ⟨h1, fun p hp => ?_⟩
                rcases Nat.lt_or_ge p q with h | h
                · exact h2 p h
                · rw [show p = q by omega]; exact heq
              · exact .inr ⟨p, by omega, h2, h3⟩
            clear heq hcell f1 hlm
            generalize (at' l q).1 = y at *
            generalize d'.1 = y' at *
            go_wp2
            go_region
            go_wp2
            go_roundw
            case rel => exact ⟨q + 1, z, _, rfl, rfl, by go_num, by omega, HQ2, below_drew HBX.out⟩
            case measure => simp [intOf]; omega
        · obtain rfl : q = m := by omega
          have HO3 : Hid (x.ownsRow w.heap.size 35 2 (.slice a1 q c1) q (ds l)) := by
            have h1 := HO2.out
            have h2 := HM.out
            unfold OwnP at h1
            rw [← h2] at h1
            exact h1
          rcases HQ.out with ⟨rfl, hno⟩ | ⟨p, hp, rfl, hpe⟩
          · have HL' : Hid (l' = l ++ [d']) := by
              unfold Hid
              rw [HSN.out]
              unfold upL
              rw [if_neg]
              intro h
              obtain ⟨y, hy, ey⟩ := has'_iff.1 h
              obtain ⟨j, hj⟩ := List.mem_iff_getElem?.1 hy
              have hjl := (List.getElem?_eq_some_iff.1 hj).1
              have := at_get hjl
              rw [hj] at this
              exact hno j (by rw [HM.out]; exact hjl) (by rw [← Option.some.inj this]; exact ey)
            clear hno HQ
            have HX : Hid (w.heap.size ≤ x.heap.size) := HBW.out.size
            have hq43 : q ≤ 8796093022207 := by omega
            go_wp2_with (at_builtin; refine wpList_append_own _ rfl _ _ 25 rfl w.heap.size 35 i0 (.agg #[.int .i64 0, .int .i64 0]) 2 16 Try.underlying25 HI.out hz0 hz1 hz2 rfl (by decide) _ _ _ rfl (HO3.out.alloc _) ⟨x.heap.size, 0, none⟩ 1 1 [.int .i64 d'.1, .int .i64 d'.2] rfl rfl ?c1 ?c2 ?c3 ?c4 ?c5 ?_)
            case c1 => exact two_new _ _ _ _
            case c2 => intro y hy; simp at hy; rcases hy with rfl | rfl <;> rfl
            case c3 => unfold maxLen; omega
            case c4 => omega
            case c5 => have := HX.out; simp; omega
            intro v' w3 ho3 hg3 _
            obtain ⟨a3, c3, rfl⟩ : ∃ a3 c3, v' = .slice a3 (q + 1) c3 := by
              rcases ho3.2 with ⟨h, hn⟩ | ⟨g, cap, cur, h, _⟩
              · omega
              · exact ⟨_, _, h⟩
            have HM3 : Hid (q + 1 = l'.length) := by unfold Hid; rw [HL'.out, List.length_append, ← HM.out]; rfl
            have HO4 : Hid (OwnP w3 w.heap.size (.slice a3 (q + 1) c3) l') := by
              unfold Hid OwnP
              rw [← HM3.out, HL'.out, ds_append]
              exact ho3
            have HB4 : Hid (Below w.heap.size w w3) := ((HBW.out.alloc HBW.out.size _).grown hg3 (by have := HX.out; simp; omega) (fun j hj => (HO3.out.lt j hj).1))
            clear ho3 hg3 HO3 HO2
            go_wp2_with fail
            go_roundw
            case rel => exact ⟨k + 1, q + 1, _, _, _, rfl, rfl, by go_num, by omega, by omega, by rw [HLE.out]; exact HM3, by rw [HLE.out]; exact HO4, HB4⟩
            case measure => simp [intOf]; omega
          · have hlm := HM.out
            obtain ⟨g1, rfl, hg1, _, hfz, hcell⟩ := HO2.out.grip (by omega)
            obtain ⟨f0, f1⟩ := hcell p (by omega)
            have hfr := hfz (p * 2 + 1)
            obtain ⟨s1, s2⟩ := HO2.out.set1 p (by omega) d'.2
            have HL' : Hid (l' = l.set p d') := by unfold Hid; rw [HSN.out]; exact upL_at HIDS.out (by omega) hpe
            have hpd : ((at' l p).1, d'.2) = d' := by rw [hpe]
            rw [hpd, ← HL'.out] at s1
            have HM3 : Hid (q = l'.length) := by unfold Hid; rw [HL'.out, List.length_set]; exact hlm
            have HO4 := hid s1
            have HB4 := hid (HBW.out.trans s2)
            clear hcell hfz f0 s1 s2 hpd hpe HQ HO3 HO2 hlm
            generalize (at' l p).2 = y1 at f1
            generalize d'.2 = y2 at *
            go_wp2_with fail
            go_roundw
            case rel => exact ⟨k + 1, q, _, _, _, rfl, rfl, by go_num, by omega, by omega, by rw [HLE.out]; exact HM3, by rw [HLE.out]; exact HO4, HB4⟩
            case measure => simp [intOf]; omega
    · have HE : Hid (lastL (L.take k) = lastL L) := by unfold Hid; rw [List.take_of_length_le (by have := HN.out; omega)]
      rw [HE.out] at HO
      go_wp2_with fail
      go_ret
      exact ⟨_, rfl, HO.out, HB.out⟩
end Go.Proofs.Ythbjfbalgejndaa
