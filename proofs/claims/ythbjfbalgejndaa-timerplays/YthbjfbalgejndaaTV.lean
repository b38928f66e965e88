import Derived.Test.YthbjfbalgejndaaTU
namespace Go.Proofs.Ythbjfbalgejndaa
open Go.ChangeShapes Go.WideShapes Go.ChangeAt Go.RowKit Go.Maps H
set_option maxHeartbeats 4000000
set_option maxRecDepth 100000

theorem Srt.has {R S : List Dl} (h : Srt R S) (i : Int) : hasS R i = hasS S i := by
  rw [Bool.eq_iff_iff]
  unfold hasS
  rw [List.any_eq_true, List.any_eq_true]
  constructor
  · rintro ⟨x, hx, e⟩; exact ⟨x, (h.mem x).2 hx, e⟩
  · rintro ⟨x, hx, e⟩; exact ⟨x, (h.mem x).1 hx, e⟩

theorem Srt.up {R S : List Dl} (h : Srt R S) (d : Dl) : Srt (upL R d) (setS S d) :=
  ⟨setS_sorted h.sorted, fun x => by rw [mem_setS, mem_upL, h.mem]⟩

theorem up_new {R : List Dl} {d : Dl} (h : ∀ x ∈ R, x.1 ≠ d.1) : upL R d = R ++ [d] := by
  unfold upL
  rw [if_neg]
  intro hh
  obtain ⟨x, hx, e⟩ := has'_iff.1 hh
  exact h x hx e

theorem up_in64 {R : List Dl} {i a : Int} (h : ∀ x ∈ R, In64 x.1 ∧ In64 x.2) (hi : In64 i) (ha : In64 a) : ∀ x ∈ upL R (i, a), In64 x.1 ∧ In64 x.2 := fun x hx => by
  rcases mem_upL.1 hx with rfl | ⟨hx, _⟩
  · exact ⟨hi, ha⟩
  · exact h x hx

/-- A time written over. -/
theorem Rf.set1 {w : World} {b g n cap : Nat} {go : Option Nat} {lim : Int} {R : List Dl} (h : Rf w b go lim R) (hr : w.heap[b]? = some (.cells #[.int .i64 lim, .slice (some ⟨g, 0, none⟩) n cap] 73 (0, 0))) {p : Nat} (hp : p < R.length) {i a : Int} (hpi : (at' R p).1 = i) (hi : In64 i) (ha : In64 a) :
    Rf (w.setCell ⟨g, p * 2 + 1, none⟩ (.int .i64 a)) b go lim (upL R (i, a)) ∧ Fr (fpR b go) w (w.setCell ⟨g, p * 2 + 1, none⟩ (.int .i64 a)) := by
  obtain ⟨v, hr', ho, hg⟩ := h.ex
  rw [hr] at hr'
  cases hr'
  have hgo : go = some g := hg.symm
  have hf : Fr [g] w (w.setCell ⟨g, p * 2 + 1, none⟩ (.int .i64 a)) := (Fr.refl [g] w).set (by simp)
  have e : upL R (i, a) = R.set p (i, a) := upL_at h.ids hp hpi
  refine ⟨⟨?_, upL_ids h.ids _, up_in64 h.in64 hi ha, h.lo, h.hi, by rw [e, List.length_set]; exact h.fits⟩, hf.mono (by simp [fpR, hgo])⟩
  rcases ho.2 with ⟨h1, _⟩ | ⟨g', cap', cur, e', hb, hgg, hnc, hcm, hcs, ht⟩
  · cases h1
  · cases e'
    have hgb : b ≠ g := fun e => by rw [← e, hr] at hgg; cases hgg
    have h2 := heap_setCell_same w g (p * 2 + 1) cur 76 (.int .i64 a) hgg
    refine ⟨_, (hf.block b (Array.getElem?_eq_some_iff.1 hr).1 (by simpa using hgb)).trans hr, ?_, hg⟩
    rw [e]
    refine ⟨by rw [ds_len], .inr ⟨g, cap, _, by rw [List.length_set], hb, h2, by rw [List.length_set]; exact hnc, hcm, by simpa using hcs, ?_⟩⟩
    rw [List.length_set, ds_set R p _ hp]
    simp only [Array.toList_setIfInBounds, List.take_set]
    rw [ht]
    congr 1
    symm
    apply List.ext_getElem?
    intro k
    by_cases hk : k = p * 2
    · subst hk
      rw [List.getElem?_set_self (by rw [ds_len]; omega), (ds_at R p hp).1, hpi]
    · rw [List.getElem?_set_ne (Ne.symm hk)]

theorem rset_any (b : Nat) (go : Option Nat) (lim : Int) (R S : List Dl) (i a : Int) (w : World) (hT : Rf w b go lim R) (hS : Srt R S) (hi : In64 i) (ha : In64 a) :
    Calls Try.prog 29 #[.pointer (some ⟨b, 0, none⟩), .int .i64 i, .int .i64 a] w fun e w' => ∃ go' R', e = .returned (.int .i64 (setE S lim i)) ∧ Rf w' b go' lim R' ∧ Srt R' (setR S lim (i, a)) ∧ (∀ x ∈ go'.toList, x ∈ go.toList ∨ w.heap.size ≤ x) ∧ Fr (fpR b go) w w' := by
  obtain ⟨i0, hi0, hz0, hz1, hz2⟩ := info_parts info76
  have HI : Hid (Try.prog.info? 76 = some i0) := hi0
  have HPL := hid (place_any b go lim R i w hT)
  obtain ⟨ao, n, cap, HN, hn6, hgo, hr, hG, ho⟩ := hT.grip
  have k0 : w.cell? ⟨b, 0, none⟩ = some (.int .i64 lim) := by rw [cell_of_row _ _ _ _ _ _ hr]; rfl
  have k1 := hG.at1
  have l1 := hG.lc
  have l2 := hG.cm
  have HC := hid hG.cell
  have hlen := hS.len hT.ids
  have HH := hid (hS.has i)
  have HSL : Hid (S.length = n) := by unfold Hid; rw [hlen, HN.out]
  have HT := hid hT
  have HS := hid hS
  have HR := hid hr
  have HO := hid ho
  have HGO := hid hgo
  have HIA : Hid (In64 i ∧ In64 a) := ⟨hi, ha⟩
  clear hT hG hr ho hS hi ha hlen hi0 hgo
  go_enter Try.func29, Try.ntmps29
  go_wp2_with fail
  refine HPL.out.mono ?_
  rintro _ y1 ⟨z, rfl, hz, e⟩
  obtain rfl := e.symm
  rcases hz with ⟨rfl, hz⟩ | ⟨p, hp, rfl, hpe⟩
  · have hno : hasS S i = false := by rw [← HH.out]; exact hasS_false hz
    by_cases hroom : (n : Int) < lim
    · have HE : Hid (setE S lim i = 0 ∧ setR S lim (i, a) = setS S (i, a)) := set_room (by rw [HSL.out]; exact hroom) i a
      have HUP := hid (up_new (d := (i, a)) hz)
      have hq : decide (lim ≤ (n : Int)) = false := by simp; omega
      have HREST : Hid (∀ (o : Obj) v' w3, w3.ownsRow 0 76 2 v' (n + 1) (ds R ++ [.int .i64 i, .int .i64 a]) → (w.drew.alloc o).grownBy w3 (Value.slice ao n cap).ownBlock → (v'.ownBlock = (Value.slice ao n cap).ownBlock ∨ v'.ownBlock = some (w.heap.size + 1)) →
          w3.cell? ⟨b, 1, none⟩ = some (.slice ao n cap) ∧ w3.frozen? ⟨b, 1, none⟩ = false ∧ ∃ go' R', Rf (w3.setCell ⟨b, 1, none⟩ v') b go' lim R' ∧ Srt R' (setR S lim (i, a)) ∧ (∀ x ∈ go'.toList, x ∈ go.toList ∨ w.heap.size ≤ x) ∧ Fr (fpR b go) w (w3.setCell ⟨b, 1, none⟩ v')) := fun o v' w3 ho3 hg3 hloc => by
        have hbl : b < w.heap.size := (Array.getElem?_eq_some_iff.1 HR.out).1
        have hsz : (w.drew.alloc o).heap.size = w.heap.size + 1 := World.size_alloc w.drew o
        have hne : (Value.slice ao n cap).ownBlock ≠ some b := by
          rcases HO.out.2 with ⟨e, _⟩ | ⟨g, cap', cur, e, _, hg, _⟩
          · rw [e]; simp [Value.ownBlock]
          · rw [e]; intro e2; simp [Value.ownBlock] at e2; rw [e2, HR.out] at hg; cases hg
        have hfa : Fr (fpR b go) w (w.drew.alloc o) := ((Fr.refl (fpR b go) w).drew).trans (Fr.alloc _ _ o)
        have hfa' : Fr [] w (w.drew.alloc o) := ((Fr.refl [] w).drew).trans (Fr.alloc _ _ o)
        have hf3 : Fr (fpR b go) w w3 := hfa.grown hg3 (fun k hk => .inl (by rw [HGO.out] at hk; simp [fpR, hk]))
        have hb3 : w3.heap[b]? = some (.cells #[.int .i64 lim, .slice ao n cap] 73 (0, 0)) := by
          rw [hg3.block b (by omega) (fun e => hne e.symm)]
          exact (hfa'.block b hbl (by simp)).trans HR.out
        refine ⟨by rw [cell_of_row _ _ _ _ _ _ hb3]; rfl, frozen_of_row _ _ _ _ _ hb3, v'.ownBlock, upL R (i, a), ⟨⟨v', heap_setCell_same w3 b 1 _ 73 _ hb3, ?_, rfl⟩, upL_ids HT.out.ids _, up_in64 HT.out.in64 HIA.out.1 HIA.out.2, HT.out.lo, HT.out.hi, ?_⟩, by rw [HE.out.2]; exact HS.out.up _, fun x hx => ?_, ?_⟩
        · have hds : ds R ++ [.int .i64 i, .int .i64 a] = ds (R ++ [(i, a)]) := by rw [ds_append]; rfl
          rw [hds] at ho3
          have hl : (R ++ [(i, a)]).length = n + 1 := by rw [List.length_append, ← HN.out]; rfl
          rw [HUP.out, hl]
          have hf4 : Fr [b] w3 (w3.setCell ⟨b, 1, none⟩ v') := (Fr.refl [b] w3).set (by simp)
          refine ⟨ho3.1, ?_⟩
          rcases ho3.2 with h | ⟨g, cap', cur, h, hb, hg, rest⟩
          · exact .inl h
          · have hgb : g ≠ b := fun e => by rw [e, hb3] at hg; cases hg
            exact .inr ⟨g, cap', cur, h, hb, (hf4.block g (Array.getElem?_eq_some_iff.1 hg).1 (by simpa using hgb)).trans hg, rest⟩
        · rw [HUP.out, List.length_append, ← HN.out]
          simp only [List.length_cons, List.length_nil]
          omega
        · have hx' : v'.ownBlock = some x := by simpa using hx
          rcases hloc with h | h
          · left; rw [← HGO.out, ← h]; exact hx
          · right
            rw [hx'] at h
            have : x = w.heap.size + 1 := Option.some.inj h
            omega
        · exact hf3.set (by simp [fpR])
      clear hz hno
      go_wp2
      go_region
      go_wp2_with (at_builtin; refine wpList_append_own_at _ rfl _ _ 71 rfl 0 76 i0 (.agg #[.int .i64 0, .int .i64 0]) 2 16 Try.underlying71 HI.out hz0 hz1 hz2 rfl (by decide) _ _ _ rfl (HO.out.drew.alloc _) ⟨w.heap.size, 0, none⟩ 1 1 [.int .i64 i, .int .i64 a] rfl rfl ?c1 ?c2 ?c3 ?c4 ?c5 ?_)
      case c1 => exact two_new w.drew _ _ _
      case c2 => intro y hy; simp at hy; rcases hy with rfl | rfl <;> rfl
      case c3 => unfold maxLen; omega
      case c4 => omega
      case c5 => exact Nat.zero_le _
      intro v' w3 ho3 hg3 hnil hloc
      obtain ⟨c3, f3, hE⟩ := HREST.out _ v' w3 ho3 hg3 hloc
      have HEND := hid hE
      obtain ⟨a3, m3, d3, rfl⟩ : ∃ a3 m3 d3, v' = .slice a3 m3 d3 := by
        rcases ho3.2 with ⟨h, _⟩ | ⟨g, cap, cur, h, _⟩
        · exact ⟨_, _, _, h⟩
        · exact ⟨_, _, _, h⟩
      clear ho3 hg3 hnil hloc hE HREST k0 k1
      go_wp2_with fail
      go_ret
      obtain ⟨go', R', q1, q2, q3, q4⟩ := HEND.out
      exact ⟨go', R', int_end HE.out.1, q1, q2, q3, q4⟩
    · have HE : Hid (setE S lim i = 4 ∧ setR S lim (i, a) = S) := by
        have hh : ¬ (hasS S i = true ∨ (S.length : Int) < lim) := by rw [hno, HSL.out]; simpa using hroom
        unfold setE setR
        exact ⟨if_neg hh, if_neg hh⟩
      have hq : decide (lim ≤ (n : Int)) = true := by simp; omega
      clear hz hno
      go_wp2
      go_region
      go_wp2
      go_ret
      exact ⟨go, R, int_end HE.out.1, HT.out.below (below_drew (Below.refl _ _)), by rw [HE.out.2]; exact HS.out, fun x hx => .inl hx, Fr.of_below (below_drew (Below.refl _ _)) _⟩
  · have HE : Hid (setE S lim i = 0 ∧ setR S lim (i, a) = setS S (i, a)) := by
      have hh : hasS S i = true := by rw [← HH.out, ← hpe]; exact hasS_true (mem_at hp)
      unfold setE setR
      exact ⟨if_pos (.inl hh), if_pos (.inl hh)⟩
    have hpn : p < n := by rw [HN.out]; exact hp
    have b0 : (p : Int) < (n : Int) := by omega
    have b1 : (0 : Int) ≤ (p : Int) := by omega
    obtain ⟨g, rfl, _, _, e0, e1, hfz⟩ := HC.out p hpn
    have hf1 := hfz (p * 2 + 1)
    obtain ⟨s1, s2⟩ := HT.out.set1 HR.out hp hpe HIA.out.1 HIA.out.2
    have HS1 := hid s1
    have HS2 := hid s2
    clear hp hpe hfz s1 s2 e0 HPL
    generalize (at' R p).2 = y1 at *
    go_wp2_with fail
    go_ret
    exact ⟨go, _, int_end HE.out.1, HS1.out, by rw [HE.out.2]; exact HS.out.up _, fun x hx => .inl hx, HS2.out⟩
end Go.Proofs.Ythbjfbalgejndaa
