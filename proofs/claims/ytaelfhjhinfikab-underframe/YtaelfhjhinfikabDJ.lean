/-
  The reference: Copy, Lose, Take, Spoil, List.
-/
import Derived.Test.YtaelfhjhinfikabDI
namespace Go.Proofs.Ytaelfhjhinfikab
open Go.ChangeShapes Go.WideShapes Go.ChangeAt Go.RowKit Me
set_option maxHeartbeats 2000000
set_option maxRecDepth 100000

theorem copyR_any (w : World) (F : Nat → Prop) (pb m : Nat) (S : List Pk) (i : Int) (h : Rn w pb m S F) :
    Calls Try.prog 27 #[.pointer (some ⟨pb, 0, none⟩), .int .i64 i] w fun e w' => e = .returned (.int .i64 ((coE m S i : Nat) : Int)) ∧ RnD w w' pb m (coS m S i) F := by
  have HH := hid h
  obtain ⟨v, E, hat, hS, hF, hle, hm⟩ := h
  have HHA := hid (there_any w pb m v E i hat)
  have hlen : E.length = S.length := by rw [hS, List.length_map]
  rw [hlen] at HHA
  cases hi : inR i S.length with
  | false =>
    have HE : Hid (coE m S i = 3 ∧ coS m S i = S) := by
      have : coE m S i = 3 := by unfold coE; rw [hi]; rfl
      exact ⟨this, by unfold coS; rw [this]; rfl⟩
    rw [HE.out.1, HE.out.2]
    rw [hi] at HHA
    have HFIN : Hid (RnD w w pb m S F) := HoD.same HH.out (Below.refl _ _)
    clear hat hS hF hle hm hlen hi
    go_enter Try.func27, Try.ntmps27
    go_wp2_with fail
    refine HHA.out.mono ?_
    rintro _ _ ⟨rfl, ew⟩
    obtain rfl := ew.symm
    clear ew HHA
    go_wp2_with fail
    go_ret
    exact ⟨rfl, HFIN.out⟩
  | true =>
    obtain ⟨j, rfl, hj⟩ := inR_true hi
    obtain ⟨va, vn, vc, rfl, HN, hn1, hn2, -⟩ := hat.fl.shape
    unfold maxLen at hn2
    obtain ⟨c0, c1, -⟩ := hat.cellsR
    have hj1 : (j : Int) < (vn : Int) := by have := HN.out; omega
    have hj2 : (0 : Int) ≤ (j : Int) := by omega
    rw [hi] at HHA
    by_cases hmn : m ≤ vn
    · have h4 : coE m S (j : Int) = 4 := by unfold coE; rw [hi]; simp only [if_true]; rw [if_pos (by have := HN.out; omega)]
      have h5 : coS m S (j : Int) = S := by unfold coS; rw [h4]; rfl
      rw [h4, h5]
      have hm' : (m : Int) ≤ (vn : Int) := by omega
      clear hat hS hF hle hm hlen hi hj h4 h5
      go_enter Try.func27, Try.ntmps27
      go_wp2_with fail
      refine HHA.out.mono ?_
      rintro _ _ ⟨rfl, ew⟩
      obtain rfl := ew.symm
      clear ew HHA
      go_upto_region 3 with fail
      go_quiet (fail)
      have HFIN : Hid (RnD w (w.drewN nq) pb m S F) := HoD.same HH.out (below_drewN (Below.refl _ _) _)
      go_wp2_with fail
      go_ret
      exact ⟨rfl, HFIN.out⟩
    · have h4 : coE m S (j : Int) = 0 := by unfold coE; rw [hi]; simp only [if_true]; rw [if_neg (by have := HN.out; omega)]
      have hm' : ¬ (m : Int) ≤ (vn : Int) := by omega
      have hjE : j < E.length := by omega
      obtain ⟨g, rfl, hg, hc⟩ := hat.fl.at (List.getElem?_eq_getElem hjE)
      have hmem := List.getElem_mem hjE
      have hown := hat.fl.own _ hmem
      have hok := hat.fl.ok _ hmem
      have hpk : S.getD j ⟨0, []⟩ = E[j].pk := by rw [hS]; simp [hjE]
      have h5 : coS m S (j : Int) = S ++ [E[j].pk] := by unfold coS; rw [h4, if_pos rfl, Int.toNat_natCast, hpk]
      rw [h4, h5]
      generalize E[j] = e at *
      obtain ⟨ad, bb, eu⟩ := e
      simp only at hc hown hok
      obtain ⟨ua, un, uc, rfl, -, -, -⟩ := hown.shape
      have hpk2 : En.pk ⟨ad, bb, .slice ua un uc⟩ = ⟨ad, bb⟩ := rfl
      rw [hpk2]
      have HTW : Hid (∀ u1 : World, Below w.heap.size w u1 → Calls Try.prog 37 #[.agg #[.int .u32 (ad : Int), .slice ua un uc]] u1 fun e w' => ∃ a n c, e = .returned (.agg #[.int .u32 (ad : Int), .slice a n c]) ∧ OwnB w' u1.heap.size (.slice a n c) bb ∧ Below u1.heap.size u1 w') := fun u1 h1 => own_any u1 _ ad _ bb ((hown.below h1).sees hok.2.2) hok.2.1
      have HPU : Hid (∀ (u1 w3 : World) (a3 : Option Addr) (n3 c3 : Nat), Below w.heap.size w u1 → OwnB w3 u1.heap.size (.slice a3 n3 c3) bb → Below u1.heap.size u1 w3 → ∃ a5 n5 c5 w5, (∀ ty, (Builtin.append_ #[33, 33] ty #[.slice (some ⟨g, 0, none⟩) vn vc, .slice (some ⟨w3.heap.size, 0, none⟩) 1 1]).run Try.prog (w3.alloc (.cells #[.int .u32 (ad : Int), .slice a3 n3 c3] 41)) = .ok (.slice a5 n5 c5) w5) ∧ w5.heap[pb]? = some (.cells (mkR m (.slice (some ⟨g, 0, none⟩) vn vc)) 67 (0, 0)) ∧ RnD w (w5.setCell ⟨pb, 0, none⟩ (.slice a5 n5 c5)) pb m (S ++ [⟨ad, bb⟩]) F) := by
        intro u1 w3 a3 n3 c3 h1 h2 h3
        obtain ⟨a5, n5, c5, w5, p1, p2, p3⟩ := hat.push (by decide) 0 (fun _ => rfl) ad bb a3 n3 c3 (h2.low h1.size) (h1.trans (h3.mono h1.size)) hok.1 hok.2.1 hok.2.2 (by omega)
        refine ⟨a5, n5, c5, w5, p1, p2, HoD.turn p3 hF (by rw [hS, List.map_append]; rfl) ?_ hm⟩
        rw [List.length_append]
        have := HN.out
        simp
        omega
      have HCL : Hid (∀ u1 : World, Below w.heap.size w u1 → u1.cell? ⟨pb, 0, none⟩ = some (.slice (some ⟨g, 0, none⟩) vn vc) ∧ u1.cell? ⟨pb, 1, none⟩ = some (.int .i64 (m : Int)) ∧ u1.cell? ⟨g, j * 2, none⟩ = some (.int .u32 (ad : Int)) ∧ u1.cell? ⟨g, j * 2 + 1, none⟩ = some (.slice ua un uc) ∧ pb < u1.heap.size ∧ g < u1.heap.size) := fun u1 h1 =>
        ⟨(hat.below h1).cellsR.1, (hat.below h1).cellsR.2.1, (hc u1 (h1.block g hg)).1, (hc u1 (h1.block g hg)).2.1, (hat.below h1).lt (.inl rfl), Nat.lt_of_lt_of_le hg h1.size⟩
      clear hat hS hF hle hm hlen hi hj h4 h5 hmem hown hok hpk hc hpk2 hg hjE
      go_enter Try.func27, Try.ntmps27
      go_wp2_with fail
      refine HHA.out.mono ?_
      rintro _ _ ⟨rfl, ew⟩
      obtain rfl := ew.symm
      clear ew HHA
      go_upto_region 3 with fail
      go_quiet (fail)
      obtain ⟨u0, HU0⟩ : ∃ u0, Hid (u0 = w.drewN nq) := ⟨_, rfl⟩
      have HB0 : Hid (Below w.heap.size w u0) := by unfold Hid; rw [HU0.out]; exact below_drewN (Below.refl _ _) _
      have HB0d : Hid (Below w.heap.size w u0.drew) := below_drew HB0.out
      rw [← HU0.out]
      obtain ⟨e0, e1, e2, e3, -, -⟩ := HCL.out u0 HB0.out
      clear c0 c1
      go_upto_region 5 with fail
      go_region_law (first
        | (go_simp; go_at_call 37; refine (HTW.out u0.drew HB0d.out).mono ?_; rintro _ w3 ⟨a3, n3, c3, rfl, ho3, hb3⟩; obtain ⟨a5, n5, c5, w5, hap, hr5, hnx⟩ := HPU.out u0.drew w3 a3 n3 c3 HB0d.out ho3 hb3; have HAP := hid hap; have HNX := hid hnx; obtain ⟨f0, f1, f2, f3, hp3, hg3⟩ := HCL.out w3 (HB0d.out.trans (hb3.mono HB0d.out.size)); have g1 : w5.cell? ⟨pb, 0, none⟩ = some (.slice (some ⟨g, 0, none⟩) vn vc) := (by rw [cell_of_row _ _ _ _ _ _ hr5]; rfl); have g2 : w5.frozen? ⟨pb, 0, none⟩ = false := frozen_of_row _ _ _ _ _ hr5; clear hap hnx hr5 ho3 hb3)
        | (refine step_append_run rfl _ _ _ _ rfl _ _ rfl rfl (HAP.out _) ?_)
        | fail)
      all_goals (
        go_wp2_with fail
        go_ret
        exact ⟨rfl, HNX.out⟩)

/-- The list without a packet is stored. -/
theorem HAt.out {ty : TypeId} {mk : Value → Array Value} {w u : World} {pb j : Nat} {v v' : Value} {E : List En} (h : HAt ty mk w pb v E) (hty : ty ≠ 41 ∧ ty ≠ 5) (i : Nat) (hmk : (mk v).setIfInBounds i v' = mk v') (hf : Fl u v' (E.eraseIdx j)) (hn : ∀ k, v'.ownBlock = some k → w.heap.size ≤ k) (hb : Below w.heap.size w u) :
    HTurn ty mk w (u.setCell ⟨pb, i, none⟩ v') pb v E v' (E.eraseIdx j) :=
  h.store (S := fun _ => False) hty i hmk (Keeps.of hb) (fun _ e => e.elim) hf fun k hk => by
    rcases hk with hk | ⟨e, he, hk⟩
    · exact .inr (hn k hk)
    · exact .inl (.inr ⟨e, List.mem_of_mem_eraseIdx he, hk⟩)

theorem loseR_any (w : World) (F : Nat → Prop) (pb m : Nat) (S : List Pk) (i : Int) (h : Rn w pb m S F) :
    Calls Try.prog 29 #[.pointer (some ⟨pb, 0, none⟩), .int .i64 i] w fun e w' => e = .returned (.int .i64 ((tkE S i : Nat) : Int)) ∧ RnD w w' pb m (tkS S i) F := by
  have HH := hid h
  obtain ⟨v, E, hat, hS, hF, hle, hm⟩ := h
  have HHA := hid (there_any w pb m v E i hat)
  have hlen : E.length = S.length := by rw [hS, List.length_map]
  rw [hlen] at HHA
  cases hi : inR i S.length with
  | false =>
    have HE : Hid (tkE S i = 3 ∧ tkS S i = S) := by
      exact ⟨by unfold tkE; rw [hi]; rfl, by unfold tkS; rw [hi]; rfl⟩
    rw [HE.out.1, HE.out.2]
    rw [hi] at HHA
    have HFIN : Hid (RnD w w pb m S F) := HoD.same HH.out (Below.refl _ _)
    clear hat hS hF hle hm hlen hi
    go_enter Try.func29, Try.ntmps29
    go_wp2_with fail
    refine HHA.out.mono ?_
    rintro _ _ ⟨rfl, ew⟩
    obtain rfl := ew.symm
    clear ew HHA
    go_wp2_with fail
    go_ret
    exact ⟨rfl, HFIN.out⟩
  | true =>
    obtain ⟨j, rfl, hj⟩ := inR_true hi
    have HD := hid (without_any w pb m j v E hat (by omega))
    have hE : tkE S (j : Int) = 0 := by unfold tkE; rw [hi]; rfl
    have hT : tkS S (j : Int) = S.eraseIdx j := by unfold tkS; rw [hi]; rfl
    rw [hE, hT]
    have HFIN : Hid (∀ (w2 : World) (a : Option Addr) (n c : Nat), Fl w2 (.slice a n c) (E.eraseIdx j) → (∀ k, Value.ownBlock (.slice a n c) = some k → w.heap.size ≤ k) → Below w.heap.size w w2 → RnD w (w2.setCell ⟨pb, 0, none⟩ (.slice a n c)) pb m (S.eraseIdx j) F ∧ w2.heap[pb]? = some (.cells (mkR m v) 67 (0, 0))) := fun w2 a n c h1 h2 h3 => ⟨HoD.turn (hat.out (by decide) 0 rfl h1 h2 h3) hF (by rw [hS, map_erase]) (by rw [List.length_eraseIdx]; split <;> omega) hm, (hat.below h3).row⟩
    rw [hi] at HHA
    clear hat hS hF hle hm hlen hi hE hT hj
    go_enter Try.func29, Try.ntmps29
    go_wp2_with fail
    refine HHA.out.mono ?_
    rintro _ _ ⟨rfl, ew⟩
    obtain rfl := ew.symm
    clear ew HHA
    go_wp2_with fail
    refine HD.out.mono ?_
    rintro _ w2 ⟨a, n, c, rfl, hf2, hn2, hb2⟩
    obtain ⟨hfin, hr2⟩ := HFIN.out w2 a n c hf2 hn2 hb2
    have HN2 := hid hfin
    have d1 : w2.cell? ⟨pb, 0, none⟩ = some v := by rw [cell_of_row _ _ _ _ _ _ hr2]; rfl
    have d2 : w2.frozen? ⟨pb, 0, none⟩ = false := frozen_of_row _ _ _ _ _ hr2
    clear hf2 hn2 hb2 HD HFIN hfin hr2
    go_wp2_with fail
    go_ret
    exact ⟨rfl, HN2.out⟩
end Go.Proofs.Ytaelfhjhinfikab
