import Derived.Test.YteoebmpfdcbbmacDoorQHoldK
namespace Go.Proofs.YteoebmpfdcbbmacDoor
open Go.ChangeShapes Go.WideShapes Go.ChangeAt Go.RowKit Jn N
set_option maxHeartbeats 16000000
set_option maxRecDepth 100000

/-- A list of Booleans. -/
def SeesT (w : World) (v : Value) (n : Nat) : Prop := ∃ ao cap, v = .slice ao n cap ∧ n ≤ cap ∧ cap ≤ maxLen ∧ ∀ j, j < n → ∃ (g off : Nat) (b : Bool), ao = some ⟨g, off, none⟩ ∧ g < w.heap.size ∧ w.cell? ⟨g, off + j, none⟩ = some (.bool b)
theorem SeesT.below {w w' : World} {v : Value} {n : Nat} (h : SeesT w v n) (hb : Below w.heap.size w w') : SeesT w' v n := by
  obtain ⟨ao, cap, hv, h1, h2, h3⟩ := h
  refine ⟨ao, cap, hv, h1, h2, fun j hj => ?_⟩
  obtain ⟨g, off, b, ha, hg, hc⟩ := h3 j hj
  exact ⟨g, off, b, ha, Nat.lt_of_lt_of_le hg hb.size, (hb.cell (p := ⟨g, _, none⟩) hg).trans hc⟩

theorem begins_any (v : Value) (n : Nat) (w : World) (h : SeesT w v n) :
    Calls Tryd.prog 9 #[v] w fun e w' => ∃ a : Nat, e = .returned (.int .i64 (a : Int)) ∧ a ≤ n ∧ w' = w := by
  obtain ⟨ao, cap, rfl, h1, h2, h3⟩ := h
  have H3 := hid h3
  unfold maxLen at h2
  clear h3
  go_enter Tryd.func9, Tryd.ntmps9
  go_wp2_with fail
  go_loopw [3] (fun i wv => ∃ k : Nat, i = .int .i64 (k : Int) ∧ k ≤ n ∧ wv = w) (fun i _ => n - (intOf i).toNat)
  case atStart => exact ⟨0, rfl, Nat.zero_le _, rfl⟩
  case round =>
    obtain ⟨k, rfl, hk, rfl⟩ := hrel
    by_cases hlt : k < n
    · obtain ⟨g, off, b, rfl, hg, hc⟩ := H3.out k hlt
      have b0 : (k : Int) < (n : Int) := by omega
      have b1 : (0 : Int) ≤ (k : Int) := by omega
      cases b with
      | true =>
        go_wp2_with fail
        go_ret
        exact ⟨k, rfl, Nat.le_of_lt hlt, rfl⟩
      | false =>
        go_wp2_with fail
        go_roundw
        case rel => exact ⟨k + 1, by go_num, by omega, trivial⟩
        case measure => simp [intOf]; omega
    · obtain rfl : k = n := by omega
      go_wp2_with fail
      go_ret
      exact ⟨k, rfl, Nat.le_refl _, rfl⟩

/-- The first journal's steps, the second one not yet opened. -/
def T1 (w u : World) (pp qq N : Nat) : Prop := ∃ X, PaX w u pp N X ∧ u.heap[qq]? = some (prRow none none) ∧ ¬ X qq
/-- Both, apart. -/
def TwE (w u : World) (pp qq N : Nat) : Prop := ∃ X Y, PaX w u pp N X ∧ PaX w u qq N Y ∧ ∀ k, X k → ¬ Y k
theorem T1.be {w u : World} {pp qq N : Nat} (h : T1 w u pp qq N) : Below w.heap.size w u := by
  obtain ⟨X, h, -, -⟩ := h
  exact h.be
theorem TwE.be {w u : World} {pp qq N : Nat} (h : TwE w u pp qq N) : Below w.heap.size w u := by
  obtain ⟨X, Y, h, -, -⟩ := h
  exact h.be
theorem TwE.below {w u u' : World} {pp qq N : Nat} (h : TwE w u pp qq N) (hb : Below u.heap.size u u') : TwE w u' pp qq N := by
  obtain ⟨X, Y, h1, h2, h3⟩ := h
  exact ⟨X, Y, h1.below hb, h2.below hb, h3⟩
theorem TwE.swap {w u : World} {pp qq N : Nat} (h : TwE w u pp qq N) : TwE w u qq pp N := by
  obtain ⟨X, Y, h1, h2, h3⟩ := h
  exact ⟨Y, X, h2, h1, fun k hy hx => h3 k hx hy⟩
theorem T1.below {w u u' : World} {pp qq N : Nat} (h : T1 w u pp qq N) (hb : Below u.heap.size u u') : T1 w u' pp qq N := by
  obtain ⟨X, h1, h2, h3⟩ := h
  exact ⟨X, h1.below hb, below_keeps hb h2 (Array.getElem?_eq_some_iff.1 h2).1, h3⟩

theorem T1.plays {w u : World} {pp qq N : Nat} (h : T1 w u pp qq N) (ht : TabN w) (hpw : w.heap.size ≤ pp) {o : Opn} (ho : o.Ok w) (hN : N + 1 ≤ 2500000000000) :
    Calls Tryd.prog 10 #[.pointer (some ⟨pp, 0, none⟩), .agg (opv o.k o.v o.vs o.z)] u fun e u' => e = .returned (.bool true) ∧ T1 w u' pp qq (N + 1) := by
  obtain ⟨X, h1, h2, h3⟩ := h
  have hq := (Array.getElem?_eq_some_iff.1 h2).1
  refine (plays_anyX h1 ht hpw ho hN).mono ?_
  rintro e u' ⟨rfl, X', h', hfp⟩
  refine ⟨rfl, X', h', (hfp.kp.block qq hq h3).trans h2, fun e => ?_⟩
  rcases hfp.nw qq e with e | e
  · exact h3 e
  · omega
theorem TwE.plays {w u : World} {pp qq N : Nat} (h : TwE w u pp qq N) (ht : TabN w) (hpw : w.heap.size ≤ pp) {o : Opn} (ho : o.Ok w) (hN : N + 1 ≤ 2500000000000) :
    Calls Tryd.prog 10 #[.pointer (some ⟨pp, 0, none⟩), .agg (opv o.k o.v o.vs o.z)] u fun e u' => e = .returned (.bool true) ∧ TwE w u' pp qq (N + 1) := by
  obtain ⟨X, Y, h1, h2, h3⟩ := h
  have hlt := h2.lt
  have hlo := h1.lo hpw
  refine (plays_anyX h1 ht hpw ho hN).mono ?_
  rintro e u' ⟨rfl, X', h', hfp⟩
  refine ⟨rfl, X', Y, h', (h2.keeps hfp.kp (fun k e => ⟨h3 k e, hlo k e⟩)).mono (by omega), fun k e hy => ?_⟩
  rcases hfp.nw k e with e | e
  · exact h3 k e hy
  · have := hlt k hy
    omega
theorem T1.opens {w u : World} {pp qq N : Nat} (h : T1 w u pp qq N) (ht : TabN w) (hqw : w.heap.size ≤ qq) (hN : 1 ≤ N) {va vb : Value} {A B : List Nat} (hva : SeesB u va A) (hvb : SeesB u vb B) :
    Calls Tryd.prog 8 #[.pointer (some ⟨qq, 0, none⟩), .agg #[va, vb]] u fun e u' => e = .returned (.bool true) ∧ TwE w u' pp qq N := by
  obtain ⟨X, h1, h2, h3⟩ := h
  have hlt := h1.lt
  refine (open_anyX h1.be hqw h2 ht hva hvb).mono ?_
  rintro e u' ⟨rfl, Y, h', hfp⟩
  refine ⟨rfl, X, Y, h1.keeps hfp.kp (fun k e => by cases e; exact ⟨h3, hqw⟩), h'.mono hN, fun k hx hy => ?_⟩
  rcases hfp.nw k hy with e | e
  · cases e
    exact h3 hx
  · have := hlt k hx
    omega
def crO : Opn := ⟨6, .slice none 0 0, [], .slice none 0 0, [], 1073741824⟩
theorem crO_ok (w : World) : crO.Ok w := ⟨sees_nil w, seesBB_nil w, Nat.zero_le _, (fun L hL => by cases hL), Nat.zero_le _, ⟨(show (-9223372036854775808 : Int) ≤ 1073741824 by decide), (show (1073741824 : Int) < 9223372036854775808 by decide)⟩⟩

theorem two_any (va vb vc vd v vt : Value) (A B C D : List Nat) (Os : List Opn) (nt : Nat) (w : World) (hva : SeesB w va A) (hvb : SeesB w vb B) (hvc : SeesB w vc C) (hvd : SeesB w vd D) (hv : SeesO w v Os) (hok : ∀ o ∈ Os, o.Ok w) (hl : Os.length * 64 ≤ 140737488351232) (ht : TabN w) (hvt : SeesT w vt nt) :
    Calls Tryd.prog 4 #[.agg #[va, vb], .agg #[vc, vd], v, vt] w fun e w' => e = .returned (.bool true) ∧ Below w.heap.size w w' := by
  obtain ⟨a1, n1, c1, rfl, -, -, -⟩ := hva.shape
  obtain ⟨a2, n2, c2, rfl, -, -, -⟩ := hvb.shape
  obtain ⟨a3, n3, c3, rfl, -, -, -⟩ := hvc.shape
  obtain ⟨a4, n4, c4, rfl, -, -, -⟩ := hvd.shape
  obtain ⟨ao, n, cap, rfl, HN, hn1, hn2⟩ := hv.shape
  obtain ⟨at_, capt, rfl, hnt1, hnt2, htt⟩ := hvt
  unfold maxLen at hn2 hnt2
  have hn : n ≤ 2199023255488 := by have := HN.out; omega
  obtain ⟨u0, hu0⟩ : ∃ u0, u0 = w.alloc (.cells #[.slice a1 n1 c1, .slice a2 n2 c2] 24) := ⟨_, rfl⟩
  obtain ⟨W0, hW0⟩ : ∃ W0, W0 = u0.alloc (.cells #[.slice a3 n3 c3, .slice a4 n4 c4] 24) := ⟨_, rfl⟩
  obtain ⟨u1, hu1⟩ : ∃ u1, u1 = W0.alloc (.cells #[.pointer none, .pointer none] 33) := ⟨_, rfl⟩
  obtain ⟨u2, hu2⟩ : ∃ u2, u2 = u1.alloc (.cells #[.pointer none, .pointer none] 33) := ⟨_, rfl⟩
  have s0 : u0.heap.size = w.heap.size + 1 := by rw [hu0]; exact World.size_alloc _ _
  have sW : W0.heap.size = w.heap.size + 2 := by rw [hW0, World.size_alloc, s0]
  have s1 : u1.heap.size = w.heap.size + 3 := by rw [hu1, World.size_alloc, sW]
  have hb0 : Below w.heap.size w u0 := by rw [hu0]; exact (Below.refl _ _).alloc (Nat.le_refl _) _
  have hb0W : Below u0.heap.size u0 W0 := by rw [hW0]; exact (Below.refl _ _).alloc (Nat.le_refl _) _
  have hbW : Below w.heap.size w W0 := hb0.trans (hb0W.mono hb0.size)
  have hbW1 : Below W0.heap.size W0 u1 := by rw [hu1]; exact (Below.refl _ _).alloc (Nat.le_refl _) _
  have hb12 : Below u1.heap.size u1 u2 := by rw [hu2]; exact (Below.refl _ _).alloc (Nat.le_refl _) _
  have hbW2 : Below W0.heap.size W0 u2 := hbW1.trans (hb12.mono hbW1.size)
  have r1 : W0.heap[w.heap.size]? = some (dkRow (.slice a1 n1 c1) (.slice a2 n2 c2)) := (hb0W.block _ (by omega)).trans (by rw [hu0]; exact heap_alloc_new w _)
  have r2 : W0.heap[w.heap.size + 1]? = some (dkRow (.slice a3 n3 c3) (.slice a4 n4 c4)) := by rw [hW0, ← s0]; exact heap_alloc_new _ _
  have r3 : u2.heap[w.heap.size + 2]? = some (prRow none none) := (hb12.block _ (by omega)).trans (by rw [hu1, ← sW]; exact heap_alloc_new _ _)
  have r4 : u2.heap[w.heap.size + 3]? = some (prRow none none) := by rw [hu2, ← s1]; exact heap_alloc_new _ _
  have HU2 : Hid (u2 = (((w.alloc (.cells #[.slice a1 n1 c1, .slice a2 n2 c2] 24)).alloc (.cells #[.slice a3 n3 c3, .slice a4 n4 c4] 24)).alloc (.cells #[.pointer none, .pointer none] 33)).alloc (.cells #[.pointer none, .pointer none] 33)) := by unfold Hid; rw [hu2, hu1, hW0, hu0]
  have htW := ht.below hbW ht.2
  have HFI := hid (first_any u2 (htW.below hbW2 htW.2))
  obtain ⟨b1, hb1⟩ : ∃ b, b = w.heap.size := ⟨_, rfl⟩
  obtain ⟨b2, hb2⟩ : ∃ b, b = w.heap.size + 1 := ⟨_, rfl⟩
  obtain ⟨pp, hpp⟩ : ∃ pp, pp = w.heap.size + 2 := ⟨_, rfl⟩
  obtain ⟨qq, hqq⟩ : ∃ qq, qq = w.heap.size + 3 := ⟨_, rfl⟩
  rw [← hb1] at r1
  rw [← hb2] at r2
  rw [← hpp] at r3
  rw [← hqq] at r4
  have HPP : Hid (W0.heap.size ≤ pp ∧ W0.heap.size ≤ qq ∧ pp ≠ qq ∧ qq < u2.heap.size) := ⟨by omega, by omega, by omega, (Array.getElem?_eq_some_iff.1 r4).1⟩
  have HBS : Hid (b1 = w.heap.size ∧ b2 = w.heap.size + 1 ∧ pp = w.heap.size + 2 ∧ qq = w.heap.size + 3) := ⟨hb1, hb2, hpp, hqq⟩
  have HC : Hid (∀ u, Below W0.heap.size W0 u → (u.cell? ⟨b1, 0, none⟩ = some (.slice a1 n1 c1) ∧ u.cell? ⟨b1, 1, none⟩ = some (.slice a2 n2 c2) ∧ b1 < u.heap.size) ∧ (u.cell? ⟨b2, 0, none⟩ = some (.slice a3 n3 c3) ∧ u.cell? ⟨b2, 1, none⟩ = some (.slice a4 n4 c4) ∧ b2 < u.heap.size)) := fun u hu => by
    have k1 := below_keeps hu r1 (Array.getElem?_eq_some_iff.1 r1).1
    have k2 := below_keeps hu r2 (Array.getElem?_eq_some_iff.1 r2).1
    obtain ⟨x0, x1, -⟩ := dk_cells k1
    obtain ⟨y0, y1, -⟩ := dk_cells k2
    exact ⟨⟨x0, x1, (Array.getElem?_eq_some_iff.1 k1).1⟩, ⟨y0, y1, (Array.getElem?_eq_some_iff.1 k2).1⟩⟩
  have HSA : Hid (∀ u, Below W0.heap.size W0 u → SeesB u (.slice a1 n1 c1) A ∧ SeesB u (.slice a2 n2 c2) B ∧ SeesB u (.slice a3 n3 c3) C ∧ SeesB u (.slice a4 n4 c4) D) := fun u hu => ⟨(hva.below hbW).below hu, (hvb.below hbW).below hu, (hvc.below hbW).below hu, (hvd.below hbW).below hu⟩
  have HT := hid htW
  have HTT : Hid (∀ u, Below W0.heap.size W0 u → TabN u) := fun u hu => htW.below hu htW.2
  have HVO := hid (hv.below hbW)
  have HOK : Hid (∀ o ∈ Os, o.Ok W0) := fun o ho => (hok o ho).below hbW
  have HST : Hid (SeesT W0 (.slice at_ nt capt) nt) := SeesT.below ⟨at_, capt, rfl, hnt1, by unfold maxLen; exact hnt2, htt⟩ hbW
  have HBW := hid hbW
  have HB2 := hid hbW2
  have HR3 := hid r3
  have HR4 := hid r4
  clear hva hvb hvc hvd hv hok hl ht htW htt hu0 hW0 hu1 hu2 s0 sW s1 hb0 hb0W hbW hbW1 hb12 hbW2 r1 r2 r3 r4 hb1 hb2 hpp hqq
  go_enter Tryd.func4, Tryd.ntmps4
  go_upto_region 3 with fail
  rw [← HU2.out, ← HBS.out.2.2.2, ← HBS.out.2.2.1, ← HBS.out.2.1, ← HBS.out.1]
  go_wp2_with fail
  refine HFI.out.mono ?_
  rintro _ u3 ⟨rfl, hb3⟩
  have hbW3 : Below W0.heap.size W0 u3 := HB2.out.trans (hb3.mono HB2.out.size)
  obtain ⟨⟨x0, x1, xl⟩, -⟩ := HC.out u3 hbW3
  obtain ⟨sa, sb, -, -⟩ := HSA.out u3 hbW3
  have hr3 := below_keeps hb3 HR3.out (Array.getElem?_eq_some_iff.1 HR3.out).1
  have HR43 := hid (below_keeps hb3 HR4.out (Array.getElem?_eq_some_iff.1 HR4.out).1)
  have HPO := hid (open_anyX hbW3 HPP.out.1 hr3 HT.out sa sb)
  have HQ3 : Hid (qq < u3.heap.size) := Nat.lt_of_lt_of_le HPP.out.2.2.2 hb3.size
  clear hb3 hbW3 sa sb hr3 HFI HR3 HR4
  go_wp2_with fail
  refine HPO.out.mono ?_
  rintro _ u4 ⟨rfl, X4, h4, hf4⟩
  have HS4 : Hid (T1 W0 u4 pp qq 1) := ⟨X4, h4, (hf4.kp.block qq HQ3.out (fun e => HPP.out.2.2.1 (show qq = pp from e).symm)).trans HR43.out, fun e => by
    rcases hf4.nw qq e with e | e
    · exact HPP.out.2.2.1 (show qq = pp from e).symm
    · have := HQ3.out
      omega⟩
  have HBG := hid (begins_any _ nt u4 (HST.out.below h4.be))
  clear h4 hf4 HPO x0 x1 xl HR43 HQ3
  go_wp2_with fail
  refine HBG.out.mono ?_
  rintro _ u4' ⟨a, rfl, ha, hu4⟩
  subst hu4
  have HA := hid ha
  have ham : a ≤ 9223372036854775807 := by omega
  clear ha HBG
  go_wp2_with fail
  go_loopw [12] (fun i wr => ∃ k : Nat, i = .int .i64 (k : Int) ∧ k ≤ n ∧ k ≤ a ∧ Hid (T1 W0 wr pp qq (k + 1))) (fun i _ => n - (intOf i).toNat)
  case atStart => exact ⟨0, rfl, Nat.zero_le _, Nat.zero_le _, HS4⟩
  case round =>
    obtain ⟨k, rfl, hk, hka, HS⟩ := hrel
    clear HS4
    go_upto_region 7 with fail
    go_cut [38] from 30 to 47 (fun c wx => c = .bool (decide (k < n ∧ k < a)) ∧ wx = wr)
    case first =>
      by_cases h1 : k < n
      · have b0 : (k : Int) < (n : Int) := by omega
        by_cases h2 : k < a
        · have b1 : (k : Int) < (a : Int) := by omega
          go_wp2_with fail
          go_meet
          case rel => exact ⟨by rw [decide_eq_true ⟨h1, h2⟩], rfl⟩
        · have b1 : ¬ (k : Int) < (a : Int) := by omega
          go_wp2_with fail
          go_meet
          case rel => exact ⟨by rw [decide_eq_false (fun h => h2 h.2)], rfl⟩
      · have b0 : ¬ (k : Int) < (n : Int) := by omega
        go_wp2_with fail
        go_meet
        case rel => exact ⟨by rw [decide_eq_false (fun h => h1 h.1)], rfl⟩
    case rest =>
    obtain ⟨rfl, hwc⟩ := hcut
    rw [hwc]
    clear hwc
    by_cases hlt : k < n ∧ k < a
    · rw [decide_eq_true hlt]
      as_aux_lemma =>
      obtain ⟨hlt, hla⟩ := hlt
      obtain ⟨g, off, o, rfl, hg, c0, c1, c2, c3, HO⟩ := (HVO.out.below HS.out.be).at k hlt
      have HOO := hid (HOK.out o (List.mem_of_getElem? HO.out))
      have hTE := HS.out.plays HT.out HPP.out.1 HOO.out (by omega)
      unfold opv at hTE
      obtain ⟨kd, hkd⟩ : ∃ kd, kd = o.k := ⟨_, rfl⟩
      obtain ⟨zz, hzz⟩ : ∃ zz, zz = o.z := ⟨_, rfl⟩
      obtain ⟨xa, xn, xc, hxa, -, -, -⟩ := HOO.out.v.shape
      obtain ⟨ta, tn, tc, hta, -, -, -⟩ := HOO.out.vs.shape
      rw [← hkd] at c0 hTE
      rw [← hzz] at c3 hTE
      rw [hxa] at c1 hTE
      rw [hta] at c2 hTE
      have HTE := hid hTE
      have b0 : (k : Int) < (n : Int) := by omega
      have b1 : (0 : Int) ≤ (k : Int) := by omega
      have b2 : (k : Int) < (a : Int) := by omega
      clear hkd hzz hxa hta hTE HOO HO
      go_wp2_with fail
      refine HTE.out.mono ?_
      rintro _ u9 ⟨rfl, h9⟩
      have H9 := hid h9
      clear h9
      go_wp2_with fail
      go_roundw
      case rel => exact ⟨k + 1, by go_num, by omega, by omega, H9⟩
      case measure => simp [intOf]; omega
    · rw [decide_eq_false hlt]
      have HKA : Hid (k = n ∨ k = a) := by unfold Hid; omega
      obtain ⟨-, ⟨y0, y1, yl⟩⟩ := HC.out wr HS.out.be
      obtain ⟨-, -, sc, sd⟩ := HSA.out wr HS.out.be
      have HQO := hid (HS.out.opens HT.out HPP.out.2.1 (by omega) sc sd)
      clear sc sd hlt
      go_wp2_with fail
      refine HQO.out.mono ?_
      rintro _ u5 ⟨rfl, h5⟩
      have hCR := h5.plays HT.out HPP.out.1 (crO_ok W0) (by omega)
      unfold opv crO at hCR
      simp only at hCR
      have HCR := hid hCR
      clear h5 hCR HQO y0 y1 yl HS
      go_wp2_with fail
      refine HCR.out.mono ?_
      rintro _ u6 ⟨rfl, h6⟩
      have H6 := hid h6
      clear h6 HCR
      go_wp2_with fail
      go_loopw [13, 14, 15] (fun i _ _ wx => ∃ j : Nat, i = .int .i64 (j : Int) ∧ a ≤ j ∧ (j ≤ n ∨ j = a) ∧ Hid (TwE W0 wx pp qq (k + 2 + (j - a)))) (fun i _ _ _ => n - (intOf i).toNat)
      case atStart => exact ⟨a, rfl, Nat.le_refl _, .inr rfl, by rw [Nat.sub_self]; exact H6⟩
      case round =>
        obtain ⟨j, rfl, haj, hjn, HS⟩ := hrel
        clear H6
        by_cases hlt : j < n
        · obtain ⟨g, off, o, rfl, hg, c0, c1, c2, c3, HO⟩ := HVO.out.at j hlt
          have HOO := hid (HOK.out o (List.mem_of_getElem? HO.out))
          obtain ⟨kd, hkd⟩ : ∃ kd, kd = o.k := ⟨_, rfl⟩
          obtain ⟨zz, hzz⟩ : ∃ zz, zz = o.z := ⟨_, rfl⟩
          obtain ⟨xa, xn, xc, hxa, -, -, -⟩ := HOO.out.v.shape
          obtain ⟨ta, tn, tc, hta, -, -, -⟩ := HOO.out.vs.shape
          rw [← hkd] at c0
          rw [← hzz] at c3
          rw [hxa] at c1
          rw [hta] at c2
          have HCL : Hid (∀ u, Below W0.heap.size W0 u → u.cell? ⟨g, off + j * 4, none⟩ = some (.int .i64 kd) ∧ u.cell? ⟨g, off + j * 4 + 1, none⟩ = some (.slice xa xn xc) ∧ u.cell? ⟨g, off + j * 4 + 2, none⟩ = some (.slice ta tn tc) ∧ u.cell? ⟨g, off + j * 4 + 3, none⟩ = some (.int .i64 zz) ∧ g < u.heap.size) := fun u hu =>
            ⟨(hu.cell (p := ⟨g, _, none⟩) hg).trans c0, (hu.cell (p := ⟨g, _, none⟩) hg).trans c1, (hu.cell (p := ⟨g, _, none⟩) hg).trans c2, (hu.cell (p := ⟨g, _, none⟩) hg).trans c3, Nat.lt_of_lt_of_le hg hu.size⟩
          have HPL : Hid (∀ (ps qs N : Nat) (u : World), TwE W0 u ps qs N → W0.heap.size ≤ ps → N + 1 ≤ 2500000000000 → Calls Tryd.prog 10 #[.pointer (some ⟨ps, 0, none⟩), .agg #[.int .i64 kd, .slice xa xn xc, .slice ta tn tc, .int .i64 zz]] u fun e u' => e = .returned (.bool true) ∧ TwE W0 u' ps qs (N + 1)) := fun ps qs N u h hp hN => by
            have h1 := h.plays HT.out hp HOO.out hN
            unfold opv at h1
            rwa [← hkd, ← hzz, hxa, hta] at h1
          have HPX : Hid (∀ (wb u : World) (ps N : Nat), Below W0.heap.size W0 wb → PaE wb u ps N → wb.heap.size ≤ ps → N + 1 ≤ 2500000000000 → Calls Tryd.prog 10 #[.pointer (some ⟨ps, 0, none⟩), .agg #[.int .i64 kd, .slice xa xn xc, .slice ta tn tc, .int .i64 zz]] u fun e u' => e = .returned (.bool true) ∧ PaE wb u' ps (N + 1)) := fun wb u ps N hwb h hp hN => by
            have h1 := plays_any h (HTT.out wb hwb) hp (HOO.out.below hwb) hN
            unfold opv at h1
            rwa [← hkd, ← hzz, hxa, hta] at h1
          have e0 : (j : Int) < (n : Int) := by omega
          have e1 : (0 : Int) ≤ (j : Int) := by omega
          have HNB : Hid (k + 2 + (j - a) + 1 ≤ 2500000000000) := by unfold Hid; omega
          have HNN : Hid (k + 2 + (j - a) + 1 = k + 2 + (j + 1 - a)) := by unfold Hid; omega
          obtain ⟨NN, hNN⟩ : ∃ NN, NN = k + 2 + (j - a) := ⟨_, rfl⟩
          rw [← hNN] at HS HNB HNN
          clear hkd hzz hxa hta HOO HO c0 c1 c2 c3 hg hNN
          obtain ⟨d0, d1, d2, d3, dl⟩ := HCL.out wr HS.out.be
          by_cases hlt2 : j < nt
          · have f0 : (j : Int) < (nt : Int) := by omega
            obtain ⟨ao', cap', hv', -, -, h3⟩ := HST.out
            simp at hv'
            obtain ⟨rfl, rfl⟩ := hv'
            obtain ⟨g', off', b, rfl, hg', hc'⟩ := h3 j hlt2
            have hcb := (HS.out.be.cell (p := ⟨g', off' + j, none⟩) hg').trans hc'
            have hgb := Nat.lt_of_lt_of_le hg' HS.out.be.size
            clear h3 hg' hc'
            cases b with
            | true =>
              as_aux_lemma =>
              have HQP := hid (HPL.out qq pp NN wr HS.out.swap HPP.out.2.1 HNB.out)
              go_wp2_with fail
              refine HQP.out.mono ?_
              rintro _ u7 ⟨rfl, h7⟩
              obtain ⟨u8, hu8⟩ : ∃ u8, u8 = u7.alloc (.cells #[.pointer none, .pointer none] 33) := ⟨_, rfl⟩
              have hb78 : Below u7.heap.size u7 u8 := by rw [hu8]; exact (Below.refl _ _).alloc (Nat.le_refl _) _
              have hr8 : u8.heap[u7.heap.size]? = some (prRow none none) := by rw [hu8]; exact heap_alloc_new _ _
              have hbe7 := h7.be
              have hbe8 : Below W0.heap.size W0 u8 := hbe7.trans (hb78.mono hbe7.size)
              obtain ⟨-, ⟨y0, y1, yl⟩⟩ := HC.out u8 hbe8
              obtain ⟨-, -, sc, sd⟩ := HSA.out u8 hbe8
              have HXO := hid (open_anyX hb78 (Nat.le_refl _) hr8 (HTT.out u7 hbe7) sc sd)
              obtain ⟨xx, hxx⟩ : ∃ xx, xx = u7.heap.size := ⟨_, rfl⟩
              rw [← hxx] at HXO
              have HXX := hid hxx
              have HU8 := hid hu8
              have H7 := hid h7
              have HB7 := hid hbe7
              clear hu8 hb78 hr8 hbe7 hbe8 sc sd hxx h7 HQP d0 d1 d2 d3 dl hcb hgb
              go_upto_region 21 with fail
              rw [← HU8.out, ← HXX.out]
              go_wp2_with fail
              refine HXO.out.mono ?_
              rintro _ u9 ⟨rfl, X9, h9, -⟩
              have hbe9 : Below W0.heap.size W0 u9 := HB7.out.trans (h9.be.mono HB7.out.size)
              obtain ⟨d0, d1, d2, d3, dl⟩ := HCL.out u9 hbe9
              have HXP := hid (HPX.out u7 u9 xx 1 HB7.out ⟨X9, h9⟩ (by rw [HXX.out]; exact Nat.le_refl _) (by omega))
              clear h9 hbe9 HXO y0 y1 yl
              go_wp2_with fail
              refine HXP.out.mono ?_
              rintro _ u10 ⟨rfl, h10⟩
              have H10 : Hid (TwE W0 u10 pp qq (k + 2 + (j + 1 - a))) := by
                unfold Hid
                rw [← HNN.out]
                exact (H7.out.below h10.be).swap
              clear h10 HXP d0 d1 d2 d3 dl
              go_wp2_with fail
              go_roundw
              case rel => exact ⟨j + 1, by go_num, by omega, .inl (by omega), H10⟩
              case measure => simp [intOf]; omega
            | false =>
              as_aux_lemma =>
              have HQP := hid (HPL.out pp qq NN wr HS.out HPP.out.1 HNB.out)
              go_wp2_with fail
              refine HQP.out.mono ?_
              rintro _ u7 ⟨rfl, h7⟩
              rw [HNN.out] at h7
              have H7 := hid h7
              clear h7 HQP
              go_wp2_with fail
              go_roundw
              case rel => exact ⟨j + 1, by go_num, by omega, .inl (by omega), H7⟩
              case measure => simp [intOf]; omega
          · as_aux_lemma =>
            have f0 : ¬ (j : Int) < (nt : Int) := by omega
            have HQP := hid (HPL.out pp qq NN wr HS.out HPP.out.1 HNB.out)
            go_wp2_with fail
            refine HQP.out.mono ?_
            rintro _ u7 ⟨rfl, h7⟩
            rw [HNN.out] at h7
            have H7 := hid h7
            clear h7 HQP
            go_wp2_with fail
            go_roundw
            case rel => exact ⟨j + 1, by go_num, by omega, .inl (by omega), H7⟩
            case measure => simp [intOf]; omega
        · as_aux_lemma =>
          have e0 : ¬ (j : Int) < (n : Int) := by omega
          have hbd : k + 2 + (j - a) + 1 + 1 ≤ 2500000000000 := by have := HKA.out; omega
          have hCR := HS.out.plays HT.out HPP.out.1 (crO_ok W0) (by omega)
          unfold opv crO at hCR
          simp only at hCR
          have HCR := hid hCR
          have HBD := hid hbd
          clear hCR hbd
          go_wp2_with fail
          refine HCR.out.mono ?_
          rintro _ u7 ⟨rfl, h7⟩
          have hCQ := h7.swap.plays HT.out HPP.out.2.1 (crO_ok W0) HBD.out
          unfold opv crO at hCQ
          simp only at hCQ
          have HCQ := hid hCQ
          clear hCQ h7 HCR
          go_wp2_with fail
          refine HCQ.out.mono ?_
          rintro _ u8 ⟨rfl, h8⟩
          have HF : Hid (Below w.heap.size w u8) := HBW.out.trans (h8.be.mono HBW.out.size)
          clear h8
          go_wp2_with fail
          go_ret
          exact ⟨rfl, HF.out⟩
end Go.Proofs.YteoebmpfdcbbmacDoor

namespace Go.Proofs.YteoebmpfdcbbmacDoor
open Go.ChangeShapes Go.WideShapes Go.ChangeAt Go.RowKit Jn N
set_option maxHeartbeats 1000000
set_option maxRecDepth 100000

theorem uBo : Tryd.prog.underlying 28 = some (.slice 4) := by kernel_rfl
theorem cell1_bo : Tryd.prog.cellsOf 4 = 1 := by kernel_rfl
section
variable {H : Type} {enc : TypeId × Value → H} {W : World}
theorem open_bos {fuel : Nat} {cs : List Value} {x : DataW H × List MemPlace} (hf : DataW.trod enc Tryd.prog W 0 (fun _ => true) true fuel 28 cs = some x) :
    ∃ v n, cs = [v] ∧ SeesT W v n := by
  rcases Go.Deep.open_slice uBo hf with ⟨h1, hx⟩ | ⟨a, len, cap, m, n, D, Pl, h1, _, hlc, hcm, hm, hxx, hx⟩
  · exact ⟨_, 0, h1, none, 0, rfl, Nat.le_refl _, Nat.zero_le _, fun j hj => absurd hj (Nat.not_lt_zero j)⟩
  · simp at hm
    subst hm
    have key : ∀ i, i < len → ∃ b : Bool, W.cell? (a.add i) = some (.bool b) := by
      intro i hi
      obtain ⟨cs', k1, k2⟩ := hx i (by omega)
      rw [cell1_bo, Nat.mul_one] at k1
      obtain ⟨_, _, hc⟩ := World.cells?_some k1
      obtain ⟨b, e1, _⟩ := DataW.trod_bool Tryd.underlying4 k2
      refine ⟨b, ?_⟩
      have := hc 0 (by omega)
      rw [e1] at this
      simpa [Addr.add] using this
    refine ⟨_, len, h1, some a, m, rfl, hlc, hcm, fun j hj => ?_⟩
    obtain ⟨b, hb⟩ := key j hj
    obtain ⟨g, off, rfl, hg⟩ : ∃ g off, a = ⟨g, off, none⟩ ∧ g < W.heap.size := by
      obtain ⟨b0, z0⟩ := key 0 (by omega)
      have e : a.add 0 = a := by simp [Addr.add]
      rw [e] at z0
      exact spot_none z0
    rw [Addr.add_mid] at hb
    exact ⟨g, off, b, rfl, hg, hb⟩
end
end Go.Proofs.YteoebmpfdcbbmacDoor
