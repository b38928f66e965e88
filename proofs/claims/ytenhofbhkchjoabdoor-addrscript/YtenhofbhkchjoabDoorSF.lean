import Derived.Test.YtenhofbhkchjoabDoorSE
namespace Go.Proofs.YtenhofbhkchjoabDoor.Mg
open Go.ChangeShapes Go.WideShapes Go.ChangeAt Go.RowKit
set_option maxHeartbeats 400000
set_option maxRecDepth 100000
attribute [local go_sem ↓] Go.wp_at_zero Go.wp_at_succ

theorem plays_any {w : World} {B p N : Nat} (o : Stp) (D : List (Nat × Int)) (h : Ok w B p N) (hf : Fit w o D) (ht : Tab w) (htc : TabC w) (hN : (N + 1) * 24 ≤ 140737488355328) :
    Calls Tryd.prog 10 #[.pointer (some ⟨p, 0, none⟩), .agg o.cells] w fun e w' => e = .returned (.bool true) ∧ Ok w' B p (N + 1) ∧ Below B w w' := by
  by_cases h1 : o.kind = 1
  · exact plays_text o D h hf ht hN h1
  by_cases h2 : o.kind = 2
  · exact plays_item o D h hf ht htc hN h2
  by_cases h3 : o.kind = 3
  · exact plays_cover o D h hf hN h3
  by_cases h4 : o.kind = 4
  · exact plays_merge o D h hf hN h4
  by_cases h5 : o.kind = 5
  · exact plays_again o D h hf hN h5
  by_cases h6 : o.kind = 6
  · exact plays_same o D h hf hN h6
  exact plays_none o D h hf hN ⟨h1, h2, h3, h4, h5, h6⟩

/-- The slice value v shows, in the world w, the steps L. -/
def SeesO (w : World) (v : Value) (L : List Stp) : Prop :=
  ∃ ao cap, v = .slice ao L.length cap ∧ L.length ≤ cap ∧ cap ≤ maxLen ∧
    ∀ j (h : j < L.length), (∃ D, Fit w L[j] D) ∧ ∃ g off, ao = some ⟨g, off, none⟩ ∧ g < w.heap.size ∧ ∀ i (hi : i < 15), w.cell? ⟨g, off + j * 15 + i, none⟩ = some (L[j].cells[i]'hi)

theorem start_ok (w : World) : Ok (w.alloc (.cells #[.slice none 0 0, .slice none 0 0, .slice none 0 0] 42)) w.heap.size w.heap.size 0 := by
  refine ⟨.slice none 0 0, .slice none 0 0, .slice none 0 0, [], [], [], ⟨Nat.le_refl _, heap_alloc_new w _, World.ownsRow_nil _ _ _ _, World.ownsRow_nil _ _ _ _, World.ownsRow_nil _ _ _ _, ?_, ?_, ?_, ?_⟩, rfl, by simp, ?_, by simp⟩
  · intro k hk; simp [Value.ownBlock] at hk
  · intro k hk; simp [Value.ownBlock] at hk
  · intro k hk; simp [Value.ownBlock] at hk
  · intro r hr; simp at hr
  · intro q hq; simp at hq

/-- An element of an own row of slices. -/
theorem row_get {w : World} {B n : Nat} {ao : Option Addr} {cap : Nat} {K : List (Value × List (Nat × Int))} (h : w.ownsRow B 39 1 (.slice ao n cap) K.length (K.map Prod.fst)) (j : Nat) (hj : j < K.length) :
    ∃ g, ao = some ⟨g, 0, none⟩ ∧ g < w.heap.size ∧ w.cell? ⟨g, j, none⟩ = some (K[j].1) := by
  obtain ⟨g, c, e, _, hg⟩ := h.form (by omega)
  simp at e
  obtain ⟨rfl, _, rfl⟩ := e
  have h1 := h.cells (g := g) rfl j K[j].1 (by rw [List.getElem?_map, List.getElem?_eq_getElem hj]; rfl)
  rw [show (⟨g, 0, none⟩ : Addr).add j = ⟨g, j, none⟩ from by unfold Addr.add; split <;> simp_all] at h1
  exact ⟨g, rfl, hg, h1⟩

set_option maxHeartbeats 4000000 in
theorem addrScript_walk (v : Value) (L : List Stp) (w : World) (hs : SeesO w v L) (ht : Tab w) (htc : TabC w) (hbig : L.length * 96 ≤ 140737488355328) :
    Calls Tryd.prog 5 #[v] w fun e w' => e = .returned (.bool true) ∧ Below w.heap.size w w' := by
  obtain ⟨ao, cap, rfl, hnc, hcap, hcell⟩ := hs
  have HC := hid hcell
  have HTB := hid ht
  have HTC := hid htc
  obtain ⟨n, hn⟩ : ∃ n, n = L.length := ⟨_, rfl⟩
  rw [← hn] at hnc hbig ⊢
  have HN := hid hn
  unfold maxLen at hcap
  have hOk := start_ok w
  obtain ⟨wa, hwa⟩ : ∃ wa, wa = w.alloc (.cells #[.slice none 0 0, .slice none 0 0, .slice none 0 0] 42) := ⟨_, rfl⟩
  rw [← hwa] at hOk
  have hb0 : Below w.heap.size w wa := by rw [hwa]; exact (Below.refl _ _).alloc (Nat.le_refl _) _
  have HWA := hid hwa
  have HOK := hid hOk
  clear hcell ht htc hn hwa hOk
  obtain ⟨p, hp⟩ : ∃ p, p = w.heap.size := ⟨_, rfl⟩
  go_enter Tryd.func5, Tryd.ntmps5
  go_wp2_with fail
  refine (begun_any _).mono ?_
  rintro e w0 ⟨rfl, rfl⟩
  go_wp2_with fail
  rw [← HWA.out]
  rw [← hp] at hb0 HOK ⊢
  have HP := hid hp
  clear hp
  go_loopw [3, 5] (fun t i wr => ∃ j : Nat, t = .bool true ∧ i = .int .i64 j ∧ j ≤ n ∧ Ok wr p p j ∧ Below p w0 wr) (fun _ i _ => n - (intOf i).toNat)
  case atStart => exact ⟨0, rfl, rfl, by omega, HOK.out, hb0⟩
  case round =>
    obtain ⟨j, rfl, rfl, hj, hOr, hbr⟩ := hrel
    by_cases hjn : j < n
    · obtain ⟨⟨D, hF⟩, g, off, rfl, hg, hc⟩ := HC.out j (by have := HN.out; omega)
      generalize L[j]'(by have := HN.out; omega) = o at hc hF
      have hb' := hbr
      rw [HP.out] at hb'
      have hFr := hF.below hb'
      have ht' := HTB.out.below hb'
      have htc' := HTC.out.below hb'
      have d := fun i hi => (hb'.cell (p := ⟨g, off + j * 15 + i, none⟩) hg).trans (hc i hi)
      have d0 := d 0 (by omega)
      have d1 := d 1 (by omega)
      have d2 := d 2 (by omega)
      have d3 := d 3 (by omega)
      have d4 := d 4 (by omega)
      have d5 := d 5 (by omega)
      have d6 := d 6 (by omega)
      have d7 := d 7 (by omega)
      have d8 := d 8 (by omega)
      have d9 := d 9 (by omega)
      have d10 := d 10 (by omega)
      have d11 := d 11 (by omega)
      have d12 := d 12 (by omega)
      have d13 := d 13 (by omega)
      have d14 := d 14 (by omega)
      simp only [Stp.cells, Nat.add_zero] at d0 d1 d2 d3 d4 d5 d6 d7 d8 d9 d10 d11 d12 d13 d14
      have hcall := plays_any (B := p) (p := p) (N := j) o D hOr hFr ht' htc' (by omega)
      unfold Stp.cells at hcall
      have HCALL := hid hcall
      clear d hc hF hFr ht' htc' hcall hb' hOr
      go_wp2_with fail
      refine HCALL.out.mono ?_
      rintro e w1 ⟨rfl, hO1, hb1⟩
      go_wp2_with fail
      go_roundw
      case rel => exact ⟨j + 1, rfl, by go_num, by omega, hO1, hbr.trans hb1⟩
      case measure => simp [intOf]; omega
    · obtain ⟨vl, vs, vw, M, KA, KC, hS, hE, _, _, _⟩ := hOr.st
      obtain ⟨so, m, sc, rfl⟩ : ∃ so m sc, vs = .slice so m sc := by
        rcases hS.os.2 with ⟨e, _⟩ | ⟨g, cap, cur, e, _⟩
        · exact ⟨_, _, _, e⟩
        · exact ⟨_, _, _, e⟩
      obtain ⟨uo, m', uc, rfl⟩ : ∃ so m sc, vw = .slice so m sc := by
        rcases hS.ow.2 with ⟨e, _⟩ | ⟨g, cap, cur, e, _⟩
        · exact ⟨_, _, _, e⟩
        · exact ⟨_, _, _, e⟩
      have hm : m = KA.length := by
        rcases hS.os.2 with ⟨e, e'⟩ | ⟨g, cap, cur, e, _⟩
        · simp at e; omega
        · simp at e; omega
      have hm' : m' = KC.length := by
        rcases hS.ow.2 with ⟨e, e'⟩ | ⟨g, cap, cur, e, _⟩
        · simp at e; omega
        · simp at e; omega
      have hlen : KA.length = KC.length := by have := congrArg List.length hE; simpa using this
      obtain rfl : m' = m := by omega
      have hmb : m' ≤ 9223372036854775807 := by
        rcases hS.os.2 with ⟨e, e'⟩ | ⟨g, cap, cur, e, _, _, a, b, _⟩
        · omega
        · unfold maxLen at b; omega
      obtain ⟨c0, c1, c2, cf⟩ := row3_at hS.row
      have hpr := hS.lt
      have HM := hid hm
      have HL := hid hlen
      have HE := hid hE
      have HS := hid hS
      clear hm hm' hlen hE hS c0 cf
      go_wp2_with fail
      go_loopw [3, 6] (fun t i wx => ∃ k q : Nat, t = .bool true ∧ i = .int .i64 k ∧ k ≤ m' ∧ wx = wr.drewN q) (fun _ i _ => m' - (intOf i).toNat)
      case atStart => exact ⟨0, 0, rfl, rfl, by omega, rfl⟩
      case round =>
        obtain ⟨k, q, rfl, rfl, hk, rfl⟩ := hrel
        by_cases hkm : k < m'
        · obtain ⟨ga, rfl, hga, ca⟩ := row_get HS.out.os k (by have := HM.out; omega)
          obtain ⟨gc, rfl, hgc, cc⟩ := row_get HS.out.ow k (by have := HM.out; have := HL.out; omega)
          have ka := HS.out.kept _ (.inl (List.getElem_mem (l := KA) (by have := HM.out; omega : k < KA.length)))
          have kc := HS.out.kept _ (.inr (List.getElem_mem (l := KC) (by have := HM.out; have := HL.out; omega : k < KC.length)))
          have he : (KA[k]'(by have := HM.out; omega)).2 = (KC[k]'(by have := HM.out; have := HL.out; omega)).2 := by
            have e1 : (KA.map Prod.snd)[k]? = (KC.map Prod.snd)[k]? := by rw [HE.out]
            rw [List.getElem?_map, List.getElem?_map, List.getElem?_eq_getElem (by have := HM.out; omega : k < KA.length), List.getElem?_eq_getElem (by have := HM.out; have := HL.out; omega : k < KC.length)] at e1
            simpa using e1
          generalize KA[k]'(by have := HM.out; omega) = ra at ca ka he
          generalize KC[k]'(by have := HM.out; have := HL.out; omega) = rc at cc kc he
          obtain ⟨va, Da⟩ := ra
          obtain ⟨vb, Db⟩ := rc
          simp only at he ca cc ka kc
          subst he
          have sa := ka.1
          have sc' := kc.1
          obtain ⟨xa, ya, za, rfl, _, _, _⟩ := sa.shape
          obtain ⟨xb, yb, zb, rfl, _, _, _⟩ := sc'.shape
          have HSA := hid sa
          have HSC := hid sc'
          clear ka kc sa sc'
          have hk0 : (0 : Int) ≤ (k : Int) := Int.natCast_nonneg _
          have hk1 : (k : Int) < (m' : Int) := by omega
          go_wp2_with fail
          go_region_held3 (fun w' => w'.cell? ⟨p, 1, none⟩ = some (.slice (some ⟨ga, 0, none⟩) m' sc) ∧ w'.cell? ⟨p, 2, none⟩ = some (.slice (some ⟨gc, 0, none⟩) m' uc) ∧ w'.cell? ⟨ga, k, none⟩ = some (.slice xa ya za) ∧ w'.cell? ⟨gc, k, none⟩ = some (.slice xb yb zb))
            (go_keep)
            (first
              | (go_at_call 11; refine (same_any _ _ _ _ _ (HSA.out.below (below_drewN (Below.refl _ _) (q + 1))) (HSC.out.below (below_drewN (Below.refl _ _) (q + 1)))).mono ?_; rintro e w5 ⟨rfl, q', rfl⟩)
              | fail)
          go_wp2_with fail
          go_roundw
          case rel => exact ⟨k + 1, q + 1 + q', rfl, by go_num, by omega, by simp⟩
          case measure => simp [intOf]; omega
        · go_wp2_with fail
          go_ret
          exact ⟨rfl, by rw [← HP.out]; exact below_drewN hbr q⟩
end Go.Proofs.YtenhofbhkchjoabDoor.Mg
