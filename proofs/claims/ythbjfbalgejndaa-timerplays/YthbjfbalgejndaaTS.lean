import Derived.Test.YthbjfbalgejndaaTR
namespace Go.Proofs.Ythbjfbalgejndaa
open Go.ChangeShapes Go.WideShapes Go.ChangeAt Go.RowKit Go.Maps H
set_option maxHeartbeats 2000000
set_option maxRecDepth 100000

theorem info76 : (Try.prog.info? 76).map (fun i => (i.zero, i.size, i.bytes)) = some (some (.agg #[.int .i64 0, .int .i64 0]), 2, 16) := by kernel_rfl

def OwnR (w : World) (base : Nat) (v : Value) (L : List Dl) : Prop := w.ownsRow base 76 2 v L.length (ds L)

theorem ownR_nil (w : World) (base : Nat) : OwnR w base (.slice none 0 0) [] := World.ownsRow_nil _ _ _ _

theorem drp_snoc_ne {R : List Dl} {k : Nat} {d : Dl} {i : Int} (h : R[k]? = some d) (hd : d.1 ≠ i) : drp i (R.take (k + 1)) = drp i (R.take k) ++ [d] := by
  unfold drp
  rw [List.take_add_one, h, List.filter_append]
  congr 1
  simp [hd]

theorem drp_snoc_eq {R : List Dl} {k : Nat} {d : Dl} {i : Int} (h : R[k]? = some d) (hd : d.1 = i) : drp i (R.take (k + 1)) = drp i (R.take k) := by
  unfold drp
  rw [List.take_add_one, h, List.filter_append]
  simp [hd]

/-- The list without the one at p is laid anew. -/
theorem without_any (b : Nat) (go : Option Nat) (lim : Int) (R : List Dl) (p : Nat) (i : Int) (w : World) (hT : Rf w b go lim R) (hp : p < R.length) (hi : (at' R p).1 = i) :
    Calls Try.prog 39 #[.pointer (some ⟨b, 0, none⟩), .int .i64 (p : Int)] w fun e w' => ∃ go', e = .returned (.tuple #[]) ∧ Rf w' b go' lim (drp i R) ∧ (∀ x ∈ go'.toList, w.heap.size ≤ x) ∧ Fr [b] w w' := by
  obtain ⟨i0, hi0, hz0, hz1, hz2⟩ := info_parts info76
  have HI : Hid (Try.prog.info? 76 = some i0) := hi0
  obtain ⟨ao, n, cap, HN, hn6, _, hr, hG, _⟩ := hT.grip
  have hpn : p < n := by rw [HN.out]; exact hp
  have HOTH : Hid (∀ k d, R[k]? = some d → k ≠ p → d.1 ≠ i) := fun k d hd hk e => by
    have h1 := at_get hp
    obtain ⟨hk1, ek⟩ := List.getElem?_eq_some_iff.1 hd
    obtain ⟨hp1, ep⟩ := List.getElem?_eq_some_iff.1 h1
    have hne : R[k].1 = R[p].1 := by rw [ek, ep, e, hi]
    rcases Nat.lt_or_gt_of_ne hk with h | h
    · exact List.pairwise_iff_getElem.1 hT.ids k p hk1 hp1 h hne
    · exact List.pairwise_iff_getElem.1 hT.ids p k hp1 hk1 h hne.symm
  have HPI := hid hi
  have h1 := hG.lc
  have h2 := hG.cm
  have HG : Hid (∀ u, Below w.heap.size w u → RfG u b ao n cap R) := fun u hu => by
    refine ⟨(hu.cell (p := ⟨b, 1, none⟩) (Array.getElem?_eq_some_iff.1 hr).1).trans hG.at1, fun j hj => ?_, hG.lc, hG.cm⟩
    obtain ⟨g, e, hgb, hgl, c0, c1, hfz⟩ := hG.cell j hj
    refine ⟨g, e, hgb, Nat.lt_of_lt_of_le hgl hu.size, (hu.cell (p := ⟨g, _, none⟩) hgl).trans c0, (hu.cell (p := ⟨g, _, none⟩) hgl).trans c1, fun k => ?_⟩
    have hb := hu.block g hgl
    have := hfz k
    simp only [World.frozen?] at this ⊢
    rw [hb]; exact this
  have HR := hid hr
  have HT := hid hT
  have hbl : b < w.heap.size := (Array.getElem?_eq_some_iff.1 hr).1
  have HBL := hid hbl
  clear hT hG hr hi0 hi hp hbl
  go_enter Try.func39, Try.ntmps39
  go_wp2_with fail
  go_loopw [4, 5] (fun t j wv => ∃ (k m : Nat) (a1 : Option Addr) (c1 : Nat) (wr : World), wr = wv ∧ t = .slice a1 m c1 ∧ j = .int .i64 k ∧ k ≤ n ∧ m ≤ k ∧ Hid (m = (drp i (R.take k)).length) ∧ Hid (OwnR wr w.heap.size (.slice a1 m c1) (drp i (R.take k))) ∧ Hid (Below w.heap.size w wr)) (fun _ j _ => n - (intOf j).toNat)
  case atStart => exact ⟨0, 0, none, 0, _, rfl, rfl, rfl, by omega, by omega, rfl, ownR_nil _ _, Below.refl _ _⟩
  case round =>
    obtain ⟨k, m, a1, c1, u, rfl, rfl, rfl, hk, hmk, HM, HO, HB⟩ := hrel
    obtain ⟨k1, hcell, _, _⟩ := HG.out u HB.out
    by_cases hlt : k < n
    · obtain ⟨g, rfl, _, _, e0, e1, _⟩ := hcell k hlt
      have HD : Hid (R[k]? = some (at' R k)) := at_get (by have := HN.out; omega)
      by_cases hkp : k = p
      · subst hkp
        have HE : Hid (drp i (R.take (k + 1)) = drp i (R.take k)) := drp_snoc_eq HD.out HPI.out
        have hq : ((k : Int) != (k : Int)) = false := by simp
        clear e0 e1 hcell
        go_wp2_with fail
        go_roundw
        case rel => exact ⟨k + 1, m, _, _, _, rfl, rfl, by go_num, by omega, by omega, by rw [HE.out]; exact HM, by rw [HE.out]; exact HO, HB⟩
        case measure => simp [intOf]; omega
      · have HE : Hid (drp i (R.take (k + 1)) = drp i (R.take k) ++ [at' R k]) := drp_snoc_ne HD.out (HOTH.out k _ HD.out hkp)
        have hq : ((k : Int) != (p : Int)) = true := by simp; omega
        have HO3 : Hid (u.ownsRow w.heap.size 76 2 (.slice a1 m c1) m (ds (drp i (R.take k)))) := by
          have h1 := HO.out
          have h2 := HM.out
          unfold OwnR at h1
          rw [← h2] at h1
          exact h1
        have HX : Hid (w.heap.size ≤ u.heap.size) := HB.out.size
        have HM3 : Hid (m + 1 = (drp i (R.take (k + 1))).length) := by unfold Hid; rw [HE.out, List.length_append, ← HM.out]; rfl
        clear hcell
        generalize hd1 : (at' R k).1 = z0 at *
        generalize hd2 : (at' R k).2 = z1 at *
        have HDD : Hid (at' R k = (z0, z1)) := by unfold Hid; rw [← hd1, ← hd2]
        clear hd1 hd2
        go_wp2_with (at_builtin; refine wpList_append_own _ rfl _ _ 71 rfl w.heap.size 76 i0 (.agg #[.int .i64 0, .int .i64 0]) 2 16 Try.underlying71 HI.out hz0 hz1 hz2 rfl (by decide) _ _ _ rfl (HO3.out.alloc _) ⟨u.heap.size, 0, none⟩ 1 1 [.int .i64 z0, .int .i64 z1] rfl rfl ?c1 ?c2 ?c3 ?c4 ?c5 ?_)
        case c1 => exact two_new _ _ _ _
        case c2 => intro y hy; simp at hy; rcases hy with rfl | rfl <;> rfl
        case c3 => unfold maxLen; omega
        case c4 => omega
        case c5 => have := HX.out; simp; omega
        intro v' w3 ho3 hg3 _
        obtain ⟨a3, c3, rfl⟩ : ∃ a3 c3, v' = .slice a3 (m + 1) c3 := by
          rcases ho3.2 with ⟨h, hn⟩ | ⟨g, cap, cur, h, _⟩
          · omega
          · exact ⟨_, _, h⟩
        have HO4 : Hid (OwnR w3 w.heap.size (.slice a3 (m + 1) c3) (drp i (R.take (k + 1)))) := by
          unfold Hid OwnR
          rw [← HM3.out, HE.out, ds_append, HDD.out]
          exact ho3
        have HB4 : Hid (Below w.heap.size w w3) := ((HB.out.alloc HB.out.size _).grown hg3 (by have := HX.out; simp; omega) (fun j hj => (HO3.out.lt j hj).1))
        clear ho3 hg3 HO3 HO e0 e1
        go_wp2_with fail
        go_roundw
        case rel => exact ⟨k + 1, m + 1, _, _, _, rfl, rfl, by go_num, by omega, by omega, HM3, HO4, HB4⟩
        case measure => simp [intOf]; omega
    · have HE : Hid (drp i (R.take k) = drp i R) := by unfold Hid; rw [List.take_of_length_le (by have := HN.out; omega)]
      rw [HE.out] at HO HM
      have hbu : u.heap[b]? = some (.cells #[.int .i64 lim, .slice ao n cap] 73 (0, 0)) := (HB.out.block b HBL.out).trans HR.out
      have hfz : u.frozen? ⟨b, 1, none⟩ = false := frozen_of_row _ _ _ _ _ hbu
      have HEND : Hid (∃ go', Rf (u.setCell ⟨b, 1, none⟩ (.slice a1 m c1)) b go' lim (drp i R) ∧ (∀ x ∈ go'.toList, w.heap.size ≤ x) ∧ Fr [b] w (u.setCell ⟨b, 1, none⟩ (.slice a1 m c1))) := by
        have hf : Fr [b] w (u.setCell ⟨b, 1, none⟩ (.slice a1 m c1)) := (Fr.of_below HB.out [b]).set (by simp)
        have hf1 : Fr [b] u (u.setCell ⟨b, 1, none⟩ (.slice a1 m c1)) := (Fr.refl [b] u).set (by simp)
        have hlen : (drp i R).length ≤ R.length := List.length_filter_le _ _
        refine ⟨(Value.slice a1 m c1).ownBlock, ⟨⟨.slice a1 m c1, heap_setCell_same u b 1 _ 73 _ hbu, ?_, rfl⟩, HT.out.ids.filter _, fun x hx => HT.out.in64 x (mem_drp.1 hx).1, HT.out.lo, HT.out.hi, by have := HT.out.fits; omega⟩, fun x hx => ?_, hf⟩
        · refine ⟨HO.out.1, ?_⟩
          rcases HO.out.2 with h | ⟨g, cap', cur, h, hb, hg, rest⟩
          · exact .inl h
          · exact .inr ⟨g, cap', cur, h, Nat.zero_le _, (hf1.block g (Array.getElem?_eq_some_iff.1 hg).1 (by have := HBL.out; simp; omega)).trans hg, rest⟩
        · exact (HO.out.lt x (by simpa using hx)).1
      clear hcell hbu
      go_wp2_with fail
      obtain ⟨go', hE1, hE2, hE3⟩ := HEND.out
      exact bodyPost_end (results_none Try.results39 _ _ _) rfl ⟨go', rfl, hE1, hE2, hE3⟩

theorem rdrop_any (b : Nat) (go : Option Nat) (lim : Int) (R : List Dl) (i : Int) (w : World) (hT : Rf w b go lim R) :
    Calls Try.prog 30 #[.pointer (some ⟨b, 0, none⟩), .int .i64 i] w fun e w' => ∃ go', e = .returned (.int .i64 (if hasS R i then 0 else 3)) ∧ Rf w' b go' lim (drp i R) ∧ (∀ x ∈ go'.toList, x ∈ go.toList ∨ w.heap.size ≤ x) ∧ Fr [b] w w' := by
  have HPL := hid (place_any b go lim R i w hT)
  have HT := hid hT
  clear hT
  obtain ⟨z, hz⟩ : ∃ z, z = (if hasS R i then (0 : Int) else 3) := ⟨_, rfl⟩
  have HZ := hid hz
  rw [← hz]
  clear hz
  go_enter Try.func30, Try.ntmps30
  go_wp2_with fail
  refine HPL.out.mono ?_
  rintro _ y1 ⟨q, rfl, hz, e⟩
  obtain rfl := e.symm
  rcases hz with ⟨rfl, hz⟩ | ⟨p, hp, rfl, hpe⟩
  · have HZ3 : Hid (z = 3) := by unfold Hid; rw [HZ.out, hasS_false hz]; rfl
    have HD := hid (drp_self hz)
    clear hz HPL
    go_wp2_with fail
    go_ret
    exact ⟨go, int_end HZ3.out, by rw [HD.out]; exact HT.out, fun x hx => .inl hx, Fr.refl _ _⟩
  · have HZ0 : Hid (z = 0) := by unfold Hid; rw [HZ.out, ← hpe, hasS_true (mem_at hp)]; rfl
    have HW := hid (without_any b go lim R p i w HT.out hp hpe)
    clear hp hpe HPL
    go_wp2_with fail
    refine HW.out.mono ?_
    rintro _ y2 ⟨go', rfl, hR, hg, hf⟩
    have HR := hid hR
    have HG := hid hg
    have HF := hid hf
    clear hR hg hf HW
    go_wp2_with fail
    go_ret
    exact ⟨go', int_end HZ0.out, HR.out, fun x hx => .inr (HG.out x hx), HF.out⟩
end Go.Proofs.Ythbjfbalgejndaa
