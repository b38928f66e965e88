/-
  Open: the walk.
-/
import Derived.Test.YteoebmpfdcbbmacDoorJX
namespace Go.Proofs.YteoebmpfdcbbmacDoor
open Go.ChangeShapes Go.WideShapes Go.ChangeAt Go.RowKit Jn N
set_option maxHeartbeats 16000000
set_option maxRecDepth 100000

/-- A journal that was opened, and its records beside it. -/
structure Opened (w w' : World) (S : Nat → Prop) (Bd p : Nat) (v : Value) (l : Lg) (rs : List (List Nat)) : Prop where
  log : LogAt w' S p l
  ok : l.Ok
  lo : ∀ k, S k → w.heap.size ≤ k
  hi : ∀ k, S k → k < Bd
  bd : w.heap.size ≤ Bd
  recs : NewRecs Bd w' v rs
  be : Below w.heap.size w w'

theorem OpA.below {w W u u' : World} {B q : Nat} {c0 c1 : Ct} {vr0 vr1 : Value} (h : OpA w B q c0 c1 vr0 vr1 W u) (hb : Below u.heap.size u u') : OpA w B q c0 c1 vr0 vr1 W u' :=
  ⟨h.be.trans (hb.mono h.be.size), h.ql, below_keeps hb h.row (Array.getElem?_eq_some_iff.1 h.row).1, h.r0.below hb, h.r1.below hb⟩

/-- The journal's row as it is boxed. -/
theorem log_new {u w3 : World} {A B : List Nat} {ga gb : Nat} {w : World} (hO : Owns w u ga gb A B) (hw3 : w3 = u.alloc (lgRow (.slice (some ⟨ga, 0, none⟩) A.length A.length) (.slice (some ⟨gb, 0, none⟩) B.length B.length) (.slice none 0 0) 0 0 0 0 0)) (hA : A.length ≤ 1099511627776) (hB : B.length ≤ 1099511627776) :
    LogX w3 (fun k => k = u.heap.size ∨ k = ga ∨ k = gb) u.heap.size ⟨A, B, [], 0, 0, 0, 0⟩ ga A.length A.length gb B.length B.length (.slice none 0 0) [] := by
  have hb : Below u.heap.size u w3 := by rw [hw3]; exact (Below.refl _ _).alloc (Nat.le_refl _) _
  have hs : w3.heap.size = u.heap.size + 1 := by rw [hw3]; simp
  have l1 := hO.a.lt
  have l2 := hO.b.lt
  refine ⟨by rw [hw3]; exact heap_alloc_new u _, (hO.a.below hb l1).own rfl hA, (hO.b.below hb l2).own rfl hB, hO.ne, ownW_nil _ _, rfl, fun x hx => by simp at hx, .inl rfl, .inr (.inl rfl), .inr (.inr rfl), fun k hk => by simp [Value.ownBlock] at hk, fun k hk => by rcases hk with rfl | rfl | rfl <;> omega⟩

theorem open_any (va vb : Value) (A B : List Nat) (w : World) (hva : SeesB w va A) (hvb : SeesB w vb B) (ht : TabN w) :
    Calls Tryd.prog 12 #[.agg #[va, vb]] w fun e w' => (opnE A B = true → e = .returned (.tuple #[.pointer none, .slice none 0 0, .int .i64 120]) ∧ Below w.heap.size w w') ∧ (opnE A B = false → ∃ p v S Bd, e = .returned (.tuple #[.pointer (some ⟨p, 0, none⟩), v, .int .i64 0]) ∧ Opened w w' S Bd p v (opnL A B) (opnR A B)) := by
  have HFA := hid (rdA_facts A hva.bytes)
  have HFB := hid (rdA_facts B hvb.bytes)
  have HOK := hid (opn_ok hva.bytes hvb.bytes)
  have HOE : Hid (opnE A B = ((((rdA A).st == 1) || ((rdA B).st == 1)) || ((((rdA A).st == 2) || ((rdA B).st == 2)) && !(((rdA A).st == 3) || ((rdA B).st == 3))))) := rfl
  have HOL : Hid (opnL A B = if (rdA A).st ≠ 3 ∧ (rdA B).st ≠ 3 then (⟨A, B, [], 0, 0, 0, 0⟩ : Lg).beg 0 1 [] else if newerN (rdA A).st (rdA A).gen (rdA B).st (rdA B).gen = 0 then ⟨A, B, [], 0, (rdA A).gen, (rdA A).recs.length, (rdA A).fin⟩ else ⟨A, B, [], 1, (rdA B).gen, (rdA B).recs.length, (rdA B).fin⟩) := rfl
  have HOR : Hid (opnR A B = if (rdA A).st ≠ 3 ∧ (rdA B).st ≠ 3 then [] else if newerN (rdA A).st (rdA A).gen (rdA B).st (rdA B).gen = 0 then (rdA A).recs else (rdA B).recs) := rfl
  have HVA := hid hva
  have HVB := hid hvb
  obtain ⟨a0, n0, c0, rfl, -, -, -⟩ := hva.shape
  obtain ⟨a1, n1, c1, rfl, -, -, -⟩ := hvb.shape
  have hz := ht.2
  have HT := hid ht
  obtain ⟨db, HDB⟩ : ∃ db, Hid (db = w.heap.size) := ⟨_, rfl⟩
  obtain ⟨W, HW⟩ : ∃ W, Hid (W = (w.alloc (.cells #[.slice a0 n0 c0, .slice a1 n1 c1] 24)).alloc (.cells #[.slice a0 n0 c0, .slice a1 n1 c1] 65)) := ⟨_, rfl⟩
  have hbW : Below w.heap.size w W := by rw [HW.out]; exact ((Below.refl _ _).alloc (Nat.le_refl _) _).alloc (by simp) _
  have hsW : W.heap.size = w.heap.size + 2 := by rw [HW.out]; simp
  have hx0 : W.heap[db]? = some (.cells #[.slice a0 n0 c0, .slice a1 n1 c1] 24 (0, 0)) := by
    have h1 : Below (w.heap.size + 1) (w.alloc (.cells #[.slice a0 n0 c0, .slice a1 n1 c1] 24)) W := by rw [HW.out]; exact (Below.refl _ _).alloc (by simp) _
    rw [HDB.out, h1.block _ (by omega)]
    exact heap_alloc_new w _
  have hx1 : W.heap[db + 1]? = some (.cells #[.slice a0 n0 c0, .slice a1 n1 c1] 65 (0, 0)) := by
    rw [HW.out, HDB.out]
    have := heap_alloc_new (w.alloc (.cells #[.slice a0 n0 c0, .slice a1 n1 c1] 24)) (.cells #[.slice a0 n0 c0, .slice a1 n1 c1] 65)
    rw [World.size_alloc] at this
    exact this
  have HX0 := hid (fun (u : World) (hu : Below W.heap.size W u) => ar_cells (below_keeps hu hx0 (by rw [HDB.out]; omega)))
  have HX1 := hid (fun (u : World) (hu : Below W.heap.size W u) => below_keeps hu hx1 (by rw [HDB.out]; omega))
  have HBW := hid hbW
  have HRA : Hid (∀ u, Below W.heap.size W u → Calls Tryd.prog 35 #[.slice a0 n0 c0] u fun e w' => ∃ vr, e = .returned (ctV (rdA A).st (rdA A).gen vr (rdA A).fin) ∧ RecsAt w u.heap.size w' vr (rdA A).recs ∧ Below u.heap.size u w') := fun u hu => readArea_any _ A w u HVA.out (hbW.trans (hu.mono hbW.size)) (HT.out.below (hbW.trans (hu.mono hbW.size)) hz)
  have HRB : Hid (∀ u, Below W.heap.size W u → Calls Tryd.prog 35 #[.slice a1 n1 c1] u fun e w' => ∃ vr, e = .returned (ctV (rdA B).st (rdA B).gen vr (rdA B).fin) ∧ RecsAt w u.heap.size w' vr (rdA B).recs ∧ Below u.heap.size u w') := fun u hu => readArea_any _ B w u HVB.out (hbW.trans (hu.mono hbW.size)) (HT.out.below (hbW.trans (hu.mono hbW.size)) hz)
  generalize rdA A = cA at *
  generalize rdA B = cB at *
  generalize opnE A B = oe at *
  generalize opnL A B = ol at *
  generalize opnR A B = orr at *
  clear hva hvb ht hx0 hx1 hbW
  go_enter Tryd.func12, Tryd.ntmps12
  go_upto_region 2 with fail
  rw [← HW.out, ← HDB.out]
  go_cut [6] from 14 (fun pt wx => ∃ q vr0 vr1, pt = .pointer (some ⟨q, 0, none⟩) ∧ Hid (OpA w W.heap.size q cA cB vr0 vr1 W wx))
  case first =>
    refine wp_region_mono' 8 (fun i => [14, 15, 16, 17, 18, 19, 20, 6].getD i 0) (Fo [.pointer (some ⟨db, 0, none⟩), .slice a0 n0 c0, .bool false, .pointer (some ⟨db, 1, none⟩), .slice a1 n1 c1] w W.heap.size cA cB) (by kernel_rfl) (by kernel_rfl) Fo.keeps ?_ ?_
    · simp only [List.take_succ_cons, List.take_zero, stepsOk]
      refine ⟨?_, ?_, ?_, ?_, ?_, ?_, ?_, ?_, trivial⟩
      · intro a u vs hb hold hdep
        exact wp_val (ex_field _ ⟨db, 0, none⟩ (.tmp 1) 0 _ rfl (hold 1 (dlO (by decide))) (field_dk db u).1) ⟨_, rfl, Fo.lit (by decide) rfl, hb, Below.refl _ _⟩
      · intro a u vs hb hold hdep
        have h1 := Fo.dep (hdep ⟨0, .data⟩ (by simp) rfl (by decide)) (by decide) rfl
        exact wp_val (ex_load _ ⟨db, 0, none⟩ (.tmp 14) _ rfl h1 (load_sl (HX0.out u hb).1)) ⟨_, rfl, Fo.lit (by decide) rfl, hb, Below.refl _ _⟩
      · intro a u vs hb hold hdep
        have h1 := Fo.dep (hdep ⟨1, .data⟩ (by simp) rfl (by decide)) (by decide) rfl
        refine wp_call 35 _ _ rfl (enters_of Tryd.func35 (by kernel_rfl) rfl) #[.slice a0 n0 c0] (by simp only [List.map_toArray, List.map_cons, List.map_nil]; rw [show a.eval (.tmp 15) = _ from h1]) ?_
        refine (HRA.out u hb).mono ?_
        rintro _ u' ⟨vr, rfl, hrr, hb'⟩
        obtain ⟨Vs, o1, o2, o3⟩ := hrr
        exact ⟨_, rfl, _, rfl, ⟨fun _ => ⟨vr, rfl, Vs, o1.mono hb.size, o2, o3⟩, fun e => (by cases e), fun e => (by cases e), fun e => (by cases e), fun e => absurd rfl e⟩, hb.trans (hb'.mono hb.size), hb'⟩
      · intro a u vs hb hold hdep
        exact wp_val (ex_field _ ⟨db, 0, none⟩ (.tmp 1) 1 _ rfl (hold 1 (dlO (by decide))) (field_dk db u).2) ⟨_, rfl, Fo.lit (by decide) rfl, hb, Below.refl _ _⟩
      · intro a u vs hb hold hdep
        have h1 := Fo.dep (hdep ⟨3, .data⟩ (by simp) rfl (by decide)) (by decide) rfl
        exact wp_val (ex_load _ ⟨db, 1, none⟩ (.tmp 17) _ rfl h1 (load_sl (HX0.out u hb).2.1)) ⟨_, rfl, Fo.lit (by decide) rfl, hb, Below.refl _ _⟩
      · intro a u vs hb hold hdep
        have h1 := Fo.dep (hdep ⟨4, .data⟩ (by simp) rfl (by decide)) (by decide) rfl
        refine wp_call 35 _ _ rfl (enters_of Tryd.func35 (by kernel_rfl) rfl) #[.slice a1 n1 c1] (by simp only [List.map_toArray, List.map_cons, List.map_nil]; rw [show a.eval (.tmp 18) = _ from h1]) ?_
        refine (HRB.out u hb).mono ?_
        rintro _ u' ⟨vr, rfl, hrr, hb'⟩
        obtain ⟨Vs, o1, o2, o3⟩ := hrr
        exact ⟨_, rfl, _, rfl, ⟨fun e => (by cases e), fun _ => ⟨vr, rfl, Vs, o1.mono hb.size, o2, o3⟩, fun e => (by cases e), fun e => (by cases e), fun _ e => absurd rfl e⟩, hb.trans (hb'.mono hb.size), hb'⟩
      · intro a u vs hb hold hdep
        have d2 := hdep ⟨2, .data⟩ (by simp) rfl (by decide)
        have d5 := hdep ⟨5, .data⟩ (by simp) rfl (by decide)
        obtain ⟨vr0, e0, r0⟩ := d2.2.1 rfl
        obtain ⟨vr1, e1, r1⟩ := d5.2.2.1 rfl
        obtain ⟨p0, m0, k0, rfl, -⟩ := r0.shape
        obtain ⟨p1, m1, k1, rfl, -⟩ := r1.shape
        have h2 : a.eval (.tmp 16) = _ := d2.1.trans e0
        have h5 : a.eval (.tmp 19) = _ := d5.1.trans e1
        exact wp_val (ex_build _ _ #[(0, ctV cA.st cA.gen (.slice p0 m0 k0) cA.fin), (1, ctV cB.st cB.gen (.slice p1 m1 k1) cB.fin)] _ rfl (by simp only [List.map_toArray, List.map_cons, List.map_nil, h2, h5]) (build_c2 _ _ _ _ _ _ _ _ _ _ _ _ u)) ⟨_, rfl, ⟨fun e => (by cases e), fun e => (by cases e), fun _ => ⟨_, _, rfl, r0, r1⟩, fun e => (by cases e), fun _ _ e => absurd rfl e⟩, hb, Below.refl _ _⟩
      · intro a u vs hb hold hdep
        have hbA : Below u.heap.size u (u.alloc (.cells zero8 71)) := (Below.refl _ _).alloc (Nat.le_refl _) _
        exact wp_val (ex_alloc _ rfl (alloc_c2 u)) ⟨_, rfl, ⟨fun e => (by cases e), fun e => (by cases e), fun e => (by cases e), fun _ => ⟨u.heap.size, rfl, hb.size, heap_alloc_new u _⟩, fun _ _ _ e => absurd rfl e⟩, hb.trans (hbA.mono hb.size), hbA⟩
    · intro vs u hb hF
      obtain ⟨vr0, vr1, e6, r0, r1⟩ := (hF 6 (by decide)).2.2.1 rfl
      obtain ⟨q, e7, hq, hrq⟩ := (hF 7 (by decide)).2.2.2.1 rfl
      obtain ⟨p0, m0, k0, rfl, -⟩ := r0.shape
      obtain ⟨p1, m1, k1, rfl, -⟩ := r1.shape
      obtain ⟨hU, hkU⟩ := c8_put hrq (.int .i64 (cA.st : Int)) (.int .u32 (cA.gen : Int)) (.slice p0 m0 k0) (.int .i64 (cA.fin : Int)) (.int .i64 (cB.st : Int)) (.int .u32 (cB.gen : Int)) (.slice p1 m1 k1) (.int .i64 (cB.fin : Int))
      have HEND : Hid (OpA w W.heap.size q cA cB (.slice p0 m0 k0) (.slice p1 m1 k1) W _) := ⟨hkU.below hb hb.size (fun k hk e => by unfold At1 at e; omega), hq, hU, r0.keepsT hkU hrq (by decide), r1.keepsT hkU hrq (by decide)⟩
      obtain ⟨f0, f1, f2, f3, f4, f5, f6, f7, ff⟩ := c8_cells hrq
      unfold ct2 at e6
      generalize vs 0 = y0
      generalize vs 1 = y1
      generalize vs 2 = y2
      generalize vs 3 = y3
      generalize vs 4 = y4
      generalize vs 5 = y5
      simp only [List.drop_succ_cons, List.drop_zero, puts, List.range, List.range.loop, List.foldr, if_true, Act.put, e6, e7, List.getD_cons_zero, List.getD_cons_succ, List.setIfInBounds_toArray, List.set_cons_succ, List.set_cons_zero]
      clear e6 e7 hF r0 r1 hrq hU hkU
      go_wp2_with fail
      go_meet
      case rel => exact ⟨q, _, _, rfl, HEND⟩
  case rest =>
  obtain ⟨q, vr0, vr1, rfl, HO⟩ := hcut
  obtain ⟨p0, m0, k0, rfl, HM0⟩ := HO.out.r0.shape
  obtain ⟨p1, m1, k1, rfl, HM1⟩ := HO.out.r1.shape
  obtain ⟨w2, HW2⟩ : ∃ w2, Hid (w2 = wc) := ⟨_, rfl⟩
  rw [← HW2.out] at HO ⊢
  obtain ⟨e0, e1, e2, e3, e4, e5, e6, e7, -⟩ := c8_cells HO.out.row
  have HHAS : Hid (∀ (u : World) (s : Nat), Calls Tryd.prog 36 #[.agg #[.int .i64 (cA.st : Int), .int .u32 (cA.gen : Int), .slice p0 m0 k0, .int .i64 (cA.fin : Int), .int .i64 (cB.st : Int), .int .u32 (cB.gen : Int), .slice p1 m1 k1, .int .i64 (cB.fin : Int)], .int .i64 (s : Int)] u fun e w' => e = .returned (.bool (cA.st == s || cB.st == s)) ∧ Below u.heap.size u w') := fun u s => has_any cA.st cA.gen cA.fin cB.st cB.gen cB.fin s _ _ u ⟨_, _, _, rfl⟩ ⟨_, _, _, rfl⟩
  have HH1 : Hid (∀ u, OpA w W.heap.size q cA cB (.slice p0 m0 k0) (.slice p1 m1 k1) W u → Calls Tryd.prog 36 #[.agg #[.int .i64 (cA.st : Int), .int .u32 (cA.gen : Int), .slice p0 m0 k0, .int .i64 (cA.fin : Int), .int .i64 (cB.st : Int), .int .u32 (cB.gen : Int), .slice p1 m1 k1, .int .i64 (cB.fin : Int)], .int .i64 1] u fun e w' => e = .returned (.bool (cA.st == 1 || cB.st == 1)) ∧ Below u.heap.size u w') := fun u _ => HHAS.out u 1
  have HH2 : Hid (∀ u, OpA w W.heap.size q cA cB (.slice p0 m0 k0) (.slice p1 m1 k1) W u → Calls Tryd.prog 36 #[.agg #[.int .i64 (cA.st : Int), .int .u32 (cA.gen : Int), .slice p0 m0 k0, .int .i64 (cA.fin : Int), .int .i64 (cB.st : Int), .int .u32 (cB.gen : Int), .slice p1 m1 k1, .int .i64 (cB.fin : Int)], .int .i64 2] u fun e w' => e = .returned (.bool (cA.st == 2 || cB.st == 2)) ∧ Below u.heap.size u w') := fun u _ => HHAS.out u 2
  have HH3 : Hid (∀ u, OpA w W.heap.size q cA cB (.slice p0 m0 k0) (.slice p1 m1 k1) W u → Calls Tryd.prog 36 #[.agg #[.int .i64 (cA.st : Int), .int .u32 (cA.gen : Int), .slice p0 m0 k0, .int .i64 (cA.fin : Int), .int .i64 (cB.st : Int), .int .u32 (cB.gen : Int), .slice p1 m1 k1, .int .i64 (cB.fin : Int)], .int .i64 3] u fun e w' => e = .returned (.bool (cA.st == 3 || cB.st == 3)) ∧ Below u.heap.size u w') := fun u _ => HHAS.out u 3
  have hgA : cA.gen < 4294967296 := by
    rcases HFA.out with ⟨e, -⟩ | e | ⟨e, -⟩ | ⟨-, -, e, -⟩
    · rw [e]; decide
    · rw [e]; decide
    · rw [e]; decide
    · exact e
  have hgB : cB.gen < 4294967296 := by
    rcases HFB.out with ⟨e, -⟩ | e | ⟨e, -⟩ | ⟨-, -, e, -⟩
    · rw [e]; decide
    · rw [e]; decide
    · rw [e]; decide
    · exact e
  have HNEW : Hid (∀ u, OpA w W.heap.size q cA cB (.slice p0 m0 k0) (.slice p1 m1 k1) W u → Calls Tryd.prog 39 #[.agg #[.int .i64 (cA.st : Int), .int .u32 (cA.gen : Int), .slice p0 m0 k0, .int .i64 (cA.fin : Int), .int .i64 (cB.st : Int), .int .u32 (cB.gen : Int), .slice p1 m1 k1, .int .i64 (cB.fin : Int)]] u fun e w' => e = .returned (.int .i64 ((newerN cA.st cA.gen cB.st cB.gen : Nat) : Int)) ∧ Below u.heap.size u w') := fun u _ => newer_any cA.st cA.gen cA.fin cB.st cB.gen cB.fin _ _ u ⟨_, _, _, rfl⟩ ⟨_, _, _, rfl⟩ hgA hgB
  have HN01 : Hid (newerN cA.st cA.gen cB.st cB.gen = 0 ∨ newerN cA.st cA.gen cB.st cB.gen = 1) := by
    unfold Hid newerN
    split
    · exact .inl rfl
    · split
      · exact .inl rfl
      · exact .inr rfl
  clear HHAS HRA HRB HW hgA hgB HW2
  cases hb1 : (cA.st == 1 || cB.st == 1) with
  | true =>
    have HE : Hid (oe = true) := by unfold Hid; rw [HOE.out, hb1]; rfl
    have HX := hid (HH1.out w2 HO.out)
    rw [hb1] at HX
    clear hb1
    go_wp2_with fail
    refine HX.out.mono ?_
    rintro _ w3 ⟨rfl, hb3⟩
    have HZ := hid (HO.out.below hb3)
    clear hb3
    go_wp2_with fail
    refine bodyPost_ret (v := .tuple #[.pointer none, .slice none 0 0, .int .i64 120]) (by simp [results, Tryd.results12, go_sem]) rfl ⟨fun _ => ⟨rfl, HBW.out.trans (HZ.out.be.mono HBW.out.size)⟩, fun e => by rw [HE.out] at e; cases e⟩
  | false =>
    have HX := hid (HH1.out w2 HO.out)
    rw [hb1] at HX
    have HLA : Hid (A.length ≤ 1048576) := by
      rcases HFA.out with ⟨e, h⟩ | e | ⟨e, h⟩ | ⟨-, h, -⟩
      · unfold Hid; omega
      · rw [e] at hb1; simp at hb1
      · exact h
      · exact h
    have HLB : Hid (B.length ≤ 1048576) := by
      rcases HFB.out with ⟨e, h⟩ | e | ⟨e, h⟩ | ⟨-, h, -⟩
      · unfold Hid; omega
      · rw [e] at hb1; simp at hb1
      · exact h
      · exact h
    rw [hb1, Bool.false_or] at HOE
    clear hb1
    cases hb2 : (cA.st == 2 || cB.st == 2) with
    | true =>
      have HY2 : Hid (∀ u, OpA w W.heap.size q cA cB (.slice p0 m0 k0) (.slice p1 m1 k1) W u → Calls Tryd.prog 36 #[.agg #[.int .i64 (cA.st : Int), .int .u32 (cA.gen : Int), .slice p0 m0 k0, .int .i64 (cA.fin : Int), .int .i64 (cB.st : Int), .int .u32 (cB.gen : Int), .slice p1 m1 k1, .int .i64 (cB.fin : Int)], .int .i64 2] u fun e w' => e = .returned (.bool true) ∧ Below u.heap.size u w') := fun u hu => by have := HH2.out u hu; rw [hb2] at this; exact this
      rw [hb2, Bool.true_and] at HOE
      clear hb2 HH2
      cases hb3 : (cA.st == 3 || cB.st == 3) with
      | true =>
        have HE : Hid (oe = false) := by unfold Hid; rw [HOE.out, hb3]; rfl
        have HB3 := hid hb3
        have HW3 : Hid (¬ (cA.st ≠ 3 ∧ cB.st ≠ 3)) := by unfold Hid; simp at hb3; omega
        have HWA : Hid (newerN cA.st cA.gen cB.st cB.gen = 0 → cA.st = 3) := by
          intro hn
          unfold newerN at hn
          by_cases hb : cB.st = 3
          · rw [if_neg (by simp [hb])] at hn
            by_cases hc : cA.st = 3 ∧ (cA.gen + 4294967296 - cB.gen) % 4294967296 < 2147483648
            · exact hc.1
            · rw [if_neg hc] at hn; cases hn
          · have := HW3.out
            by_cases ha : cA.st = 3
            · exact ha
            · exact absurd ⟨ha, hb⟩ this
        have HWB : Hid (newerN cA.st cA.gen cB.st cB.gen = 1 → cB.st = 3) := by
          intro hn
          unfold newerN at hn
          by_cases hb : cB.st = 3
          · exact hb
          · rw [if_pos hb] at hn; cases hn
        clear hb3
        go_wp2_with fail
        refine HX.out.mono ?_
        rintro _ w3 ⟨rfl, hb3'⟩
        have HZ1 := hid (HO.out.below hb3')
        have HX2 := hid (HY2.out w3 HZ1.out)
        obtain ⟨g0, g1, g2, g3, g4, g5, g6, g7, -⟩ := c8_cells HZ1.out.row
        clear hb3' e0 e1 e2 e3 e4 e5 e6 e7
        go_wp2_with fail
        refine HX2.out.mono ?_
        rintro _ w4 ⟨rfl, hb4⟩
        have HZ2 := hid (HZ1.out.below hb4)
        have HX3 := hid (HH3.out w4 HZ2.out)
        rw [HB3.out] at HX3
        obtain ⟨i0, i1, i2, i3, i4, i5, i6, i7, -⟩ := c8_cells HZ2.out.row
        clear hb4 g0 g1 g2 g3 g4 g5 g6 g7
        go_wp2_with fail
        refine HX3.out.mono ?_
        rintro _ w5 ⟨rfl, hb5⟩
        have HZ := hid (HZ2.out.below hb5)
        clear hb5 i0 i1 i2 i3 i4 i5 i6 i7
        obtain ⟨t0, t1, -, -⟩ := ar_cells (HX1.out _ HZ.out.be)
        have hlwz := HBW.out.trans (HZ.out.be.mono HBW.out.size)
        have HOWN := hid (own_any _ _ A B w5 (HVA.out.below hlwz) (HVB.out.below hlwz) (by have := HLA.out; omega) (by have := HLB.out; omega))
        have hsz1 := hlwz.size
        clear hlwz
        go_wp2_with fail
        refine HOWN.out.mono ?_
        rintro _ wy ⟨ga, gb, rfl, hOW⟩
        have HOW := hid hOW
        have HY := hid (HZ.out.below hOW.be)
        have hsz2 := hOW.be.size
        have hgal := hOW.a.lt
        have hgbl := hOW.b.lt
        clear hOW t0 t1
        obtain ⟨wv, HWV⟩ : ∃ wv, Hid (wv = wy.alloc (.cells #[.slice (some ⟨ga, 0, none⟩) A.length A.length, .slice (some ⟨gb, 0, none⟩) B.length B.length, .slice none 0 0, .int .i64 0, .int .i64 0, .int .u32 0, .int .u32 0, .int .i64 0] 76)) := ⟨_, rfl⟩
        have hbv : Below wy.heap.size wy wv := by rw [HWV.out]; exact (Below.refl _ _).alloc (Nat.le_refl _) _
        have HLX := hid (log_new HOW.out HWV.out (by have := HLA.out; omega) (by have := HLB.out; omega))
        have HV := hid (HY.out.below hbv)
        have hsv : wv.heap.size = wy.heap.size + 1 := by rw [HWV.out]; simp
        obtain ⟨p, HP⟩ : ∃ p, Hid (p = wy.heap.size) := ⟨_, rfl⟩
        rw [← HP.out] at HLX
        have HLO : Hid (∀ k, (k = p ∨ k = ga ∨ k = gb) → w.heap.size ≤ k ∧ k < wv.heap.size) := by
          intro k hk
          have := HOW.out.la
          have := HOW.out.lb
          have := HP.out
          rcases hk with rfl | rfl | rfl <;> omega
        obtain ⟨f0, f1, f2, f3, f4, f5, f6, f7, -⟩ := c8_cells HV.out.row
        have HHX := hid (HH3.out wv HV.out)
        rw [HB3.out] at HHX
        clear hbv
        go_upto_region 6 with fail
        rw [← HWV.out, ← HP.out]
        go_wp2_with fail
        refine HHX.out.mono ?_
        rintro _ wu ⟨rfl, hbu⟩
        have HU := hid (HV.out.below hbu)
        have HLU := hid (HLX.out.below hbu)
        have hsu := hbu.size
        clear hbu f0 f1 f2 f3 f4 f5 f6 f7
        obtain ⟨f0, f1, f2, f3, f4, f5, f6, f7, -⟩ := c8_cells HU.out.row
        obtain ⟨l0, l1, l2, l3, l4, l5, l6, l7, lf⟩ := lg_cells HLU.out.row
        have hplu : p < wu.heap.size := HLU.out.lt p (.inl rfl)
        have HNW := hid (HNEW.out wu HU.out)
        rcases HN01.out with hN | hN
        · rw [hN] at HNW
          have hst := HWA.out hN
          have HCF : Hid (cA.gen < 4294967296 ∧ cA.fin ≤ 1048576 ∧ 16 + 12 * cA.recs.length ≤ cA.fin ∧ ∀ r ∈ cA.recs, r.length ≤ 65536) := by
            rcases HFA.out with ⟨e, -⟩ | e | ⟨e, -⟩ | ⟨-, h1, h2, h3, h4, h5⟩
            · rw [e] at hst; cases hst
            · rw [e] at hst; cases hst
            · rw [e] at hst; cases hst
            · exact ⟨h2, by omega, h4, fun r hr => (h5 r hr).1⟩
          have HL2 : Hid (ol = ⟨A, B, [], 0, cA.gen, cA.recs.length, cA.fin⟩ ∧ orr = cA.recs) := by
            refine ⟨?_, ?_⟩
            · rw [HOL.out, if_neg HW3.out, if_pos hN]
            · rw [HOR.out, if_neg HW3.out, if_pos hN]
          clear hst hN
          go_upto_region 9 with fail
          go_wp2_with fail
          refine HNW.out.mono ?_
          rintro _ wt ⟨rfl, hbt⟩
          have HT2 := hid (HU.out.below hbt)
          have HLT := hid (HLU.out.below hbt)
          have hst := hbt.size
          clear hbt f0 f1 f2 f3 f4 f5 f6 f7 l0 l1 l2 l3 l4 l5 l6 l7 lf
          obtain ⟨f0, f1, f2, f3, f4, f5, f6, f7, -⟩ := c8_cells HT2.out.row
          obtain ⟨l0, l1, l2, l3, l4, l5, l6, l7, lf⟩ := lg_cells HLT.out.row
          have hplt : p < wt.heap.size := HLT.out.lt p (.inl rfl)
          have hqlt : q < wt.heap.size := (Array.getElem?_eq_some_iff.1 HT2.out.row).1
          have hpq : ¬ p = q := by
            rintro rfl
            have h1 := HLT.out.row
            rw [HT2.out.row] at h1
            unfold lgRow at h1
            simp at h1
          have hqp : ¬ q = p := Ne.symm hpq
          have i4 : ((4 * 0 : Nat) : Int) = 0 := rfl
          go_upto_region 11 with fail
          obtain ⟨cb, HCB⟩ : ∃ cb, Hid (cb = wt.heap.size) := ⟨_, rfl⟩
          obtain ⟨w7, HW7⟩ : ∃ w7, Hid (w7 = (wt.setCell ⟨p, 4, none⟩ (.int .i64 0)).alloc (.cells #[.int .i64 (cA.st : Int), .int .u32 (cA.gen : Int), .slice p0 m0 k0, .int .i64 (cA.fin : Int)] 69)) := ⟨_, rfl⟩
          rw [← HW7.out, ← HCB.out]
          have hk7 : Keeps (At1 p) wt w7 := by
            rw [HW7.out]
            have h1 : Keeps (At1 p) wt (wt.setCell ⟨p, 4, none⟩ (.int .i64 0)) := (Keeps.refl (At1 p) wt).set ⟨p, 4, none⟩ rfl _
            have h2 : Below (wt.setCell ⟨p, 4, none⟩ (.int .i64 0)).heap.size (wt.setCell ⟨p, 4, none⟩ (.int .i64 0)) ((wt.setCell ⟨p, 4, none⟩ (.int .i64 0)).alloc (.cells #[.int .i64 (cA.st : Int), .int .u32 (cA.gen : Int), .slice p0 m0 k0, .int .i64 (cA.fin : Int)] 69)) := (Below.refl _ _).alloc (Nat.le_refl _) _
            exact h1.trans (Keeps.of h2)
          have hs7 : w7.heap.size = wt.heap.size + 1 := by rw [HW7.out]; simp [World.setCell]
          have hrp : w7.heap[p]? = some (lgRow (.slice (some ⟨ga, 0, none⟩) A.length A.length) (.slice (some ⟨gb, 0, none⟩) B.length B.length) (.slice none 0 0) 0 0 0 0 0) := by
            have h1 : (wt.setCell ⟨p, 4, none⟩ (.int .i64 0)).heap[p]? = some (lgRow (.slice (some ⟨ga, 0, none⟩) A.length A.length) (.slice (some ⟨gb, 0, none⟩) B.length B.length) (.slice none 0 0) 0 0 0 0 0) := by
              have h0 := HLT.out.row
              unfold lgRow at h0 ⊢
              rw [set_cells h0]
              rfl
            rw [HW7.out]
            exact below_keeps ((Below.refl (wt.setCell ⟨p, 4, none⟩ (.int .i64 0)).heap.size _).alloc (Nat.le_refl _) _) h1 (by simpa [World.setCell] using hplt)
          have hrc : w7.heap[cb]? = some (.cells #[.int .i64 (cA.st : Int), .int .u32 (cA.gen : Int), .slice p0 m0 k0, .int .i64 (cA.fin : Int)] 69 (0, 0)) := by
            rw [HW7.out, HCB.out]
            have := heap_alloc_new (wt.setCell ⟨p, 4, none⟩ (.int .i64 0)) (.cells #[.int .i64 (cA.st : Int), .int .u32 (cA.gen : Int), .slice p0 m0 k0, .int .i64 (cA.fin : Int)] 69)
            rw [show (wt.setCell ⟨p, 4, none⟩ (.int .i64 0)).heap.size = wt.heap.size by simp [World.setCell]] at this
            exact this
          obtain ⟨-, -, -, -, -, y5, y6, y7, yf⟩ := lg_cells hrp
          obtain ⟨-, x1, x2, x3, -⟩ := ct_cells hrc
          have hcp : ¬ cb = p := by have := HCB.out; omega
          have hpc : ¬ p = cb := Ne.symm hcp
          have hm : m0 < 4294967296 := by have h1 := HM0.out; have h2 := HCF.out; omega
          have hmw : IntKind.u32.wrap (m0 : Int) = (m0 : Int) := by rw [IntKind.wrap_u32']; omega
          have HREL : Hid (∀ U : World, Keeps (At1 p) w7 U → U.heap[p]? = some (lgRow (.slice (some ⟨ga, 0, none⟩) A.length A.length) (.slice (some ⟨gb, 0, none⟩) B.length B.length) (.slice none 0 0) 0 0 cA.gen m0 cA.fin) → LogX U (fun k => k = p ∨ k = ga ∨ k = gb) p ol ga A.length A.length gb B.length B.length (.slice none 0 0) [] ∧ U.heap[cb]? = some (ctRow cA.st cA.gen (.slice p0 m0 k0) cA.fin) ∧ RecsAt w W.heap.size U (.slice p0 m0 k0) cA.recs ∧ Below w.heap.size w U ∧ wt.heap.size ≤ U.heap.size) := by
            intro U hkU hrU
            have hkt : Keeps (At1 p) wt U := hk7.trans hkU
            have hsU := hkt.size
            have hblt := HBW.out.trans (HT2.out.be.mono HBW.out.size)
            refine ⟨?_, (hkU.block cb (by have := HCB.out; omega) hcp).trans hrc, HT2.out.r0.keepsT hkt HLT.out.row (by decide), hkt.below hblt hblt.size (fun k hk e => by unfold At1 at e; have := (HLO.out p (.inl rfl)).1; omega), hsU⟩
            rw [HL2.out.1]
            refine HLT.out.reset hkt ?_ rfl rfl rfl (fun k hk => Nat.lt_of_lt_of_le (HLT.out.lt k hk) hsU)
            rw [hrU, HM0.out]
            rfl
          clear f0 f1 f2 f3 f4 f5 f6 f7 l0 l1 l2 l3 l4 l5 l6 l7 lf hk7 hrc
          go_cut [8] from 53 (fun pt wx => pt = .pointer (some ⟨cb, 0, none⟩) ∧ Hid (LogX wx (fun k => k = p ∨ k = ga ∨ k = gb) p ol ga A.length A.length gb B.length B.length (.slice none 0 0) [] ∧ wx.heap[cb]? = some (ctRow cA.st cA.gen (.slice p0 m0 k0) cA.fin) ∧ RecsAt w W.heap.size wx (.slice p0 m0 k0) cA.recs ∧ Below w.heap.size w wx ∧ wt.heap.size ≤ wx.heap.size))
          case first =>
            have HRP := hid hrp
            clear hrp
            go_region
            all_goals (
              have hU : ((((w7.setCell ⟨p, 5, none⟩ (.int .u32 (cA.gen : Int))).setCell ⟨p, 6, none⟩ (.int .u32 (m0 : Int))).setCell ⟨p, 7, none⟩ (.int .i64 (cA.fin : Int)))).heap[p]? = some (lgRow (.slice (some ⟨ga, 0, none⟩) A.length A.length) (.slice (some ⟨gb, 0, none⟩) B.length B.length) (.slice none 0 0) 0 0 cA.gen m0 cA.fin) := by
                have h0 := HRP.out
                unfold lgRow at h0 ⊢
                rw [set_cells (set_cells (set_cells h0))]
                rfl
              have hkU := (((Keeps.refl (At1 p) w7).set ⟨p, 5, none⟩ rfl (.int .u32 (cA.gen : Int))).set ⟨p, 6, none⟩ rfl (.int .u32 (m0 : Int))).set ⟨p, 7, none⟩ rfl (.int .i64 (cA.fin : Int))
              have HKU := hid hkU
              have HUU := hid hU
              clear hU hkU
              go_wp2_with fail
              go_meet
              case rel => exact ⟨rfl, HREL.out _ ⟨HKU.out.os, HKU.out.tape, HKU.out.output, HKU.out.size, HKU.out.block⟩ HUU.out⟩)
          case rest =>
          obtain ⟨rfl, HRR⟩ := hcut
          obtain ⟨wr, HWR⟩ : ∃ wr, Hid (wr = wc) := ⟨_, rfl⟩
          rw [← HWR.out] at HRR ⊢
          obtain ⟨-, -, z2, -, -⟩ := ct_cells HRR.out.2.1
          have HOR2 := hid (ownRecords_any (.slice p0 m0 k0) cA.recs wr (HRR.out.2.2.1.sees HRR.out.2.2.2.1) (by have := HCF.out; omega) (fun r hr => by have := HCF.out.2.2.2 r hr; omega))
          clear y5 y6 y7 yf x1 x2 x3 hrp HREL
          go_wp2_with fail
          refine HOR2.out.mono ?_
          rintro _ ws ⟨v', rfl, hnr, hbs⟩
          have HPO : Hid (Opened w ws (fun k => k = p ∨ k = ga ∨ k = gb) wr.heap.size p v' ol orr) := by
            refine ⟨⟨_, _, _, _, _, _, _, _, HRR.out.1.below hbs⟩, HOK.out HE.out, fun k hk => (HLO.out k hk).1, fun k hk => HRR.out.1.lt k hk, HRR.out.2.2.2.1.size, by rw [HL2.out.2]; exact hnr, HRR.out.2.2.2.1.trans (hbs.mono HRR.out.2.2.2.1.size)⟩
          clear hnr hbs
          go_wp2_with fail
          refine bodyPost_ret (v := .tuple #[.pointer (some ⟨p, 0, none⟩), v', .int .i64 0]) (by simp [results, Tryd.results12, go_sem]) rfl ⟨fun e => (by rw [HE.out] at e; cases e), fun _ => ⟨p, _, _, _, rfl, HPO.out⟩⟩
        · rw [hN] at HNW
          have hst := HWB.out hN
          have HCF : Hid (cB.gen < 4294967296 ∧ cB.fin ≤ 1048576 ∧ 16 + 12 * cB.recs.length ≤ cB.fin ∧ ∀ r ∈ cB.recs, r.length ≤ 65536) := by
            rcases HFB.out with ⟨e, -⟩ | e | ⟨e, -⟩ | ⟨-, h1, h2, h3, h4, h5⟩
            · rw [e] at hst; cases hst
            · rw [e] at hst; cases hst
            · rw [e] at hst; cases hst
            · exact ⟨h2, by omega, h4, fun r hr => (h5 r hr).1⟩
          have HL2 : Hid (ol = ⟨A, B, [], 1, cB.gen, cB.recs.length, cB.fin⟩ ∧ orr = cB.recs) := by
            refine ⟨?_, ?_⟩
            · rw [HOL.out, if_neg HW3.out, if_neg (by rw [hN]; decide)]
            · rw [HOR.out, if_neg HW3.out, if_neg (by rw [hN]; decide)]
          clear hst hN
          go_upto_region 9 with fail
          go_wp2_with fail
          refine HNW.out.mono ?_
          rintro _ wt ⟨rfl, hbt⟩
          have HT2 := hid (HU.out.below hbt)
          have HLT := hid (HLU.out.below hbt)
          have hst := hbt.size
          clear hbt f0 f1 f2 f3 f4 f5 f6 f7 l0 l1 l2 l3 l4 l5 l6 l7 lf
          obtain ⟨f0, f1, f2, f3, f4, f5, f6, f7, -⟩ := c8_cells HT2.out.row
          obtain ⟨l0, l1, l2, l3, l4, l5, l6, l7, lf⟩ := lg_cells HLT.out.row
          have hplt : p < wt.heap.size := HLT.out.lt p (.inl rfl)
          have hqlt : q < wt.heap.size := (Array.getElem?_eq_some_iff.1 HT2.out.row).1
          have hpq : ¬ p = q := by
            rintro rfl
            have h1 := HLT.out.row
            rw [HT2.out.row] at h1
            unfold lgRow at h1
            simp at h1
          have hqp : ¬ q = p := Ne.symm hpq
          have i4 : ((4 * 1 : Nat) : Int) = 4 := rfl
          go_upto_region 11 with fail
          obtain ⟨cb, HCB⟩ : ∃ cb, Hid (cb = wt.heap.size) := ⟨_, rfl⟩
          obtain ⟨w7, HW7⟩ : ∃ w7, Hid (w7 = (wt.setCell ⟨p, 4, none⟩ (.int .i64 1)).alloc (.cells #[.int .i64 (cB.st : Int), .int .u32 (cB.gen : Int), .slice p1 m1 k1, .int .i64 (cB.fin : Int)] 69)) := ⟨_, rfl⟩
          rw [← HW7.out, ← HCB.out]
          have hk7 : Keeps (At1 p) wt w7 := by
            rw [HW7.out]
            have h1 : Keeps (At1 p) wt (wt.setCell ⟨p, 4, none⟩ (.int .i64 1)) := (Keeps.refl (At1 p) wt).set ⟨p, 4, none⟩ rfl _
            have h2 : Below (wt.setCell ⟨p, 4, none⟩ (.int .i64 1)).heap.size (wt.setCell ⟨p, 4, none⟩ (.int .i64 1)) ((wt.setCell ⟨p, 4, none⟩ (.int .i64 1)).alloc (.cells #[.int .i64 (cB.st : Int), .int .u32 (cB.gen : Int), .slice p1 m1 k1, .int .i64 (cB.fin : Int)] 69)) := (Below.refl _ _).alloc (Nat.le_refl _) _
            exact h1.trans (Keeps.of h2)
          have hs7 : w7.heap.size = wt.heap.size + 1 := by rw [HW7.out]; simp [World.setCell]
          have hrp : w7.heap[p]? = some (lgRow (.slice (some ⟨ga, 0, none⟩) A.length A.length) (.slice (some ⟨gb, 0, none⟩) B.length B.length) (.slice none 0 0) 0 1 0 0 0) := by
            have h1 : (wt.setCell ⟨p, 4, none⟩ (.int .i64 1)).heap[p]? = some (lgRow (.slice (some ⟨ga, 0, none⟩) A.length A.length) (.slice (some ⟨gb, 0, none⟩) B.length B.length) (.slice none 0 0) 0 1 0 0 0) := by
              have h0 := HLT.out.row
              unfold lgRow at h0 ⊢
              rw [set_cells h0]
              rfl
            rw [HW7.out]
            exact below_keeps ((Below.refl (wt.setCell ⟨p, 4, none⟩ (.int .i64 1)).heap.size _).alloc (Nat.le_refl _) _) h1 (by simpa [World.setCell] using hplt)
          have hrc : w7.heap[cb]? = some (.cells #[.int .i64 (cB.st : Int), .int .u32 (cB.gen : Int), .slice p1 m1 k1, .int .i64 (cB.fin : Int)] 69 (0, 0)) := by
            rw [HW7.out, HCB.out]
            have := heap_alloc_new (wt.setCell ⟨p, 4, none⟩ (.int .i64 1)) (.cells #[.int .i64 (cB.st : Int), .int .u32 (cB.gen : Int), .slice p1 m1 k1, .int .i64 (cB.fin : Int)] 69)
            rw [show (wt.setCell ⟨p, 4, none⟩ (.int .i64 1)).heap.size = wt.heap.size by simp [World.setCell]] at this
            exact this
          obtain ⟨-, -, -, -, -, y5, y6, y7, yf⟩ := lg_cells hrp
          obtain ⟨-, x1, x2, x3, -⟩ := ct_cells hrc
          have hcp : ¬ cb = p := by have := HCB.out; omega
          have hpc : ¬ p = cb := Ne.symm hcp
          have hm : m1 < 4294967296 := by have h1 := HM1.out; have h2 := HCF.out; omega
          have hmw : IntKind.u32.wrap (m1 : Int) = (m1 : Int) := by rw [IntKind.wrap_u32']; omega
          have HREL : Hid (∀ U : World, Keeps (At1 p) w7 U → U.heap[p]? = some (lgRow (.slice (some ⟨ga, 0, none⟩) A.length A.length) (.slice (some ⟨gb, 0, none⟩) B.length B.length) (.slice none 0 0) 0 1 cB.gen m1 cB.fin) → LogX U (fun k => k = p ∨ k = ga ∨ k = gb) p ol ga A.length A.length gb B.length B.length (.slice none 0 0) [] ∧ U.heap[cb]? = some (ctRow cB.st cB.gen (.slice p1 m1 k1) cB.fin) ∧ RecsAt w W.heap.size U (.slice p1 m1 k1) cB.recs ∧ Below w.heap.size w U ∧ wt.heap.size ≤ U.heap.size) := by
            intro U hkU hrU
            have hkt : Keeps (At1 p) wt U := hk7.trans hkU
            have hsU := hkt.size
            have hblt := HBW.out.trans (HT2.out.be.mono HBW.out.size)
            refine ⟨?_, (hkU.block cb (by have := HCB.out; omega) hcp).trans hrc, HT2.out.r1.keepsT hkt HLT.out.row (by decide), hkt.below hblt hblt.size (fun k hk e => by unfold At1 at e; have := (HLO.out p (.inl rfl)).1; omega), hsU⟩
            rw [HL2.out.1]
            refine HLT.out.reset hkt ?_ rfl rfl rfl (fun k hk => Nat.lt_of_lt_of_le (HLT.out.lt k hk) hsU)
            rw [hrU, HM1.out]
            rfl
          clear f0 f1 f2 f3 f4 f5 f6 f7 l0 l1 l2 l3 l4 l5 l6 l7 lf hk7 hrc
          go_cut [8] from 53 (fun pt wx => pt = .pointer (some ⟨cb, 0, none⟩) ∧ Hid (LogX wx (fun k => k = p ∨ k = ga ∨ k = gb) p ol ga A.length A.length gb B.length B.length (.slice none 0 0) [] ∧ wx.heap[cb]? = some (ctRow cB.st cB.gen (.slice p1 m1 k1) cB.fin) ∧ RecsAt w W.heap.size wx (.slice p1 m1 k1) cB.recs ∧ Below w.heap.size w wx ∧ wt.heap.size ≤ wx.heap.size))
          case first =>
            have HRP := hid hrp
            clear hrp
            go_region
            all_goals (
              have hU : ((((w7.setCell ⟨p, 5, none⟩ (.int .u32 (cB.gen : Int))).setCell ⟨p, 6, none⟩ (.int .u32 (m1 : Int))).setCell ⟨p, 7, none⟩ (.int .i64 (cB.fin : Int)))).heap[p]? = some (lgRow (.slice (some ⟨ga, 0, none⟩) A.length A.length) (.slice (some ⟨gb, 0, none⟩) B.length B.length) (.slice none 0 0) 0 1 cB.gen m1 cB.fin) := by
                have h0 := HRP.out
                unfold lgRow at h0 ⊢
                rw [set_cells (set_cells (set_cells h0))]
                rfl
              have hkU := (((Keeps.refl (At1 p) w7).set ⟨p, 5, none⟩ rfl (.int .u32 (cB.gen : Int))).set ⟨p, 6, none⟩ rfl (.int .u32 (m1 : Int))).set ⟨p, 7, none⟩ rfl (.int .i64 (cB.fin : Int))
              have HKU := hid hkU
              have HUU := hid hU
              clear hU hkU
              go_wp2_with fail
              go_meet
              case rel => exact ⟨rfl, HREL.out _ ⟨HKU.out.os, HKU.out.tape, HKU.out.output, HKU.out.size, HKU.out.block⟩ HUU.out⟩)
          case rest =>
          obtain ⟨rfl, HRR⟩ := hcut
          obtain ⟨wr, HWR⟩ : ∃ wr, Hid (wr = wc) := ⟨_, rfl⟩
          rw [← HWR.out] at HRR ⊢
          obtain ⟨-, -, z2, -, -⟩ := ct_cells HRR.out.2.1
          have HOR2 := hid (ownRecords_any (.slice p1 m1 k1) cB.recs wr (HRR.out.2.2.1.sees HRR.out.2.2.2.1) (by have := HCF.out; omega) (fun r hr => by have := HCF.out.2.2.2 r hr; omega))
          clear y5 y6 y7 yf x1 x2 x3 hrp HREL
          go_wp2_with fail
          refine HOR2.out.mono ?_
          rintro _ ws ⟨v', rfl, hnr, hbs⟩
          have HPO : Hid (Opened w ws (fun k => k = p ∨ k = ga ∨ k = gb) wr.heap.size p v' ol orr) := by
            refine ⟨⟨_, _, _, _, _, _, _, _, HRR.out.1.below hbs⟩, HOK.out HE.out, fun k hk => (HLO.out k hk).1, fun k hk => HRR.out.1.lt k hk, HRR.out.2.2.2.1.size, by rw [HL2.out.2]; exact hnr, HRR.out.2.2.2.1.trans (hbs.mono HRR.out.2.2.2.1.size)⟩
          clear hnr hbs
          go_wp2_with fail
          refine bodyPost_ret (v := .tuple #[.pointer (some ⟨p, 0, none⟩), v', .int .i64 0]) (by simp [results, Tryd.results12, go_sem]) rfl ⟨fun e => (by rw [HE.out] at e; cases e), fun _ => ⟨p, _, _, _, rfl, HPO.out⟩⟩
      | false =>
        have HE : Hid (oe = true) := by unfold Hid; rw [HOE.out, hb3]; rfl
        have HB3 := hid hb3
        clear hb3
        go_wp2_with fail
        refine HX.out.mono ?_
        rintro _ w3 ⟨rfl, hb3'⟩
        have HZ1 := hid (HO.out.below hb3')
        have HX2 := hid (HY2.out w3 HZ1.out)
        obtain ⟨g0, g1, g2, g3, g4, g5, g6, g7, -⟩ := c8_cells HZ1.out.row
        clear hb3' e0 e1 e2 e3 e4 e5 e6 e7
        go_wp2_with fail
        refine HX2.out.mono ?_
        rintro _ w4 ⟨rfl, hb4⟩
        have HZ2 := hid (HZ1.out.below hb4)
        have HX3 := hid (HH3.out w4 HZ2.out)
        rw [HB3.out] at HX3
        obtain ⟨i0, i1, i2, i3, i4, i5, i6, i7, -⟩ := c8_cells HZ2.out.row
        clear hb4 g0 g1 g2 g3 g4 g5 g6 g7
        go_wp2_with fail
        refine HX3.out.mono ?_
        rintro _ w5 ⟨rfl, hb5⟩
        have HZ := hid (HZ2.out.below hb5)
        clear hb5 i0 i1 i2 i3 i4 i5 i6 i7
        go_wp2_with fail
        refine bodyPost_ret (v := .tuple #[.pointer none, .slice none 0 0, .int .i64 120]) (by simp [results, Tryd.results12, go_sem]) rfl ⟨fun _ => ⟨rfl, HBW.out.trans (HZ.out.be.mono HBW.out.size)⟩, fun e => by rw [HE.out] at e; cases e⟩
    | false =>
      have HE : Hid (oe = false) := by unfold Hid; rw [HOE.out, hb2]; rfl
      have HX2' : Hid (∀ u, OpA w W.heap.size q cA cB (.slice p0 m0 k0) (.slice p1 m1 k1) W u → Calls Tryd.prog 36 #[.agg #[.int .i64 (cA.st : Int), .int .u32 (cA.gen : Int), .slice p0 m0 k0, .int .i64 (cA.fin : Int), .int .i64 (cB.st : Int), .int .u32 (cB.gen : Int), .slice p1 m1 k1, .int .i64 (cB.fin : Int)], .int .i64 2] u fun e w' => e = .returned (.bool false) ∧ Below u.heap.size u w') := fun u hu => by have := HH2.out u hu; rw [hb2] at this; exact this
      clear hb2 HH2 HOE
      cases hb3 : (cA.st == 3 || cB.st == 3) with
      | true =>
        have HB3 := hid hb3
        have HW3 : Hid (¬ (cA.st ≠ 3 ∧ cB.st ≠ 3)) := by unfold Hid; simp at hb3; omega
        have HWA : Hid (newerN cA.st cA.gen cB.st cB.gen = 0 → cA.st = 3) := by
          intro hn
          unfold newerN at hn
          by_cases hb : cB.st = 3
          · rw [if_neg (by simp [hb])] at hn
            by_cases hc : cA.st = 3 ∧ (cA.gen + 4294967296 - cB.gen) % 4294967296 < 2147483648
            · exact hc.1
            · rw [if_neg hc] at hn; cases hn
          · have := HW3.out
            by_cases ha : cA.st = 3
            · exact ha
            · exact absurd ⟨ha, hb⟩ this
        have HWB : Hid (newerN cA.st cA.gen cB.st cB.gen = 1 → cB.st = 3) := by
          intro hn
          unfold newerN at hn
          by_cases hb : cB.st = 3
          · exact hb
          · rw [if_pos hb] at hn; cases hn
        clear hb3
        go_wp2_with fail
        refine HX.out.mono ?_
        rintro _ w3 ⟨rfl, hb3'⟩
        have HZ1 := hid (HO.out.below hb3')
        have HX2 := hid (HX2'.out w3 HZ1.out)
        obtain ⟨g0, g1, g2, g3, g4, g5, g6, g7, -⟩ := c8_cells HZ1.out.row
        clear hb3' e0 e1 e2 e3 e4 e5 e6 e7
        go_wp2_with fail
        refine HX2.out.mono ?_
        rintro _ w5 ⟨rfl, hb5⟩
        have HZ := hid (HZ1.out.below hb5)
        clear hb5 g0 g1 g2 g3 g4 g5 g6 g7
        obtain ⟨t0, t1, -, -⟩ := ar_cells (HX1.out _ HZ.out.be)
        have hlwz := HBW.out.trans (HZ.out.be.mono HBW.out.size)
        have HOWN := hid (own_any _ _ A B w5 (HVA.out.below hlwz) (HVB.out.below hlwz) (by have := HLA.out; omega) (by have := HLB.out; omega))
        have hsz1 := hlwz.size
        clear hlwz
        go_wp2_with fail
        refine HOWN.out.mono ?_
        rintro _ wy ⟨ga, gb, rfl, hOW⟩
        have HOW := hid hOW
        have HY := hid (HZ.out.below hOW.be)
        have hsz2 := hOW.be.size
        have hgal := hOW.a.lt
        have hgbl := hOW.b.lt
        clear hOW t0 t1
        obtain ⟨wv, HWV⟩ : ∃ wv, Hid (wv = wy.alloc (.cells #[.slice (some ⟨ga, 0, none⟩) A.length A.length, .slice (some ⟨gb, 0, none⟩) B.length B.length, .slice none 0 0, .int .i64 0, .int .i64 0, .int .u32 0, .int .u32 0, .int .i64 0] 76)) := ⟨_, rfl⟩
        have hbv : Below wy.heap.size wy wv := by rw [HWV.out]; exact (Below.refl _ _).alloc (Nat.le_refl _) _
        have HLX := hid (log_new HOW.out HWV.out (by have := HLA.out; omega) (by have := HLB.out; omega))
        have HV := hid (HY.out.below hbv)
        have hsv : wv.heap.size = wy.heap.size + 1 := by rw [HWV.out]; simp
        obtain ⟨p, HP⟩ : ∃ p, Hid (p = wy.heap.size) := ⟨_, rfl⟩
        rw [← HP.out] at HLX
        have HLO : Hid (∀ k, (k = p ∨ k = ga ∨ k = gb) → w.heap.size ≤ k ∧ k < wv.heap.size) := by
          intro k hk
          have := HOW.out.la
          have := HOW.out.lb
          have := HP.out
          rcases hk with rfl | rfl | rfl <;> omega
        obtain ⟨f0, f1, f2, f3, f4, f5, f6, f7, -⟩ := c8_cells HV.out.row
        have HHX := hid (HH3.out wv HV.out)
        rw [HB3.out] at HHX
        clear hbv
        go_upto_region 6 with fail
        rw [← HWV.out, ← HP.out]
        go_wp2_with fail
        refine HHX.out.mono ?_
        rintro _ wu ⟨rfl, hbu⟩
        have HU := hid (HV.out.below hbu)
        have HLU := hid (HLX.out.below hbu)
        have hsu := hbu.size
        clear hbu f0 f1 f2 f3 f4 f5 f6 f7
        obtain ⟨f0, f1, f2, f3, f4, f5, f6, f7, -⟩ := c8_cells HU.out.row
        obtain ⟨l0, l1, l2, l3, l4, l5, l6, l7, lf⟩ := lg_cells HLU.out.row
        have hplu : p < wu.heap.size := HLU.out.lt p (.inl rfl)
        have HNW := hid (HNEW.out wu HU.out)
        rcases HN01.out with hN | hN
        · rw [hN] at HNW
          have hst := HWA.out hN
          have HCF : Hid (cA.gen < 4294967296 ∧ cA.fin ≤ 1048576 ∧ 16 + 12 * cA.recs.length ≤ cA.fin ∧ ∀ r ∈ cA.recs, r.length ≤ 65536) := by
            rcases HFA.out with ⟨e, -⟩ | e | ⟨e, -⟩ | ⟨-, h1, h2, h3, h4, h5⟩
            · rw [e] at hst; cases hst
            · rw [e] at hst; cases hst
            · rw [e] at hst; cases hst
            · exact ⟨h2, by omega, h4, fun r hr => (h5 r hr).1⟩
          have HL2 : Hid (ol = ⟨A, B, [], 0, cA.gen, cA.recs.length, cA.fin⟩ ∧ orr = cA.recs) := by
            refine ⟨?_, ?_⟩
            · rw [HOL.out, if_neg HW3.out, if_pos hN]
            · rw [HOR.out, if_neg HW3.out, if_pos hN]
          clear hst hN
          go_upto_region 9 with fail
          go_wp2_with fail
          refine HNW.out.mono ?_
          rintro _ wt ⟨rfl, hbt⟩
          have HT2 := hid (HU.out.below hbt)
          have HLT := hid (HLU.out.below hbt)
          have hst := hbt.size
          clear hbt f0 f1 f2 f3 f4 f5 f6 f7 l0 l1 l2 l3 l4 l5 l6 l7 lf
          obtain ⟨f0, f1, f2, f3, f4, f5, f6, f7, -⟩ := c8_cells HT2.out.row
          obtain ⟨l0, l1, l2, l3, l4, l5, l6, l7, lf⟩ := lg_cells HLT.out.row
          have hplt : p < wt.heap.size := HLT.out.lt p (.inl rfl)
          have hqlt : q < wt.heap.size := (Array.getElem?_eq_some_iff.1 HT2.out.row).1
          have hpq : ¬ p = q := by
            rintro rfl
            have h1 := HLT.out.row
            rw [HT2.out.row] at h1
            unfold lgRow at h1
            simp at h1
          have hqp : ¬ q = p := Ne.symm hpq
          have i4 : ((4 * 0 : Nat) : Int) = 0 := rfl
          go_upto_region 11 with fail
          obtain ⟨cb, HCB⟩ : ∃ cb, Hid (cb = wt.heap.size) := ⟨_, rfl⟩
          obtain ⟨w7, HW7⟩ : ∃ w7, Hid (w7 = (wt.setCell ⟨p, 4, none⟩ (.int .i64 0)).alloc (.cells #[.int .i64 (cA.st : Int), .int .u32 (cA.gen : Int), .slice p0 m0 k0, .int .i64 (cA.fin : Int)] 69)) := ⟨_, rfl⟩
          rw [← HW7.out, ← HCB.out]
          have hk7 : Keeps (At1 p) wt w7 := by
            rw [HW7.out]
            have h1 : Keeps (At1 p) wt (wt.setCell ⟨p, 4, none⟩ (.int .i64 0)) := (Keeps.refl (At1 p) wt).set ⟨p, 4, none⟩ rfl _
            have h2 : Below (wt.setCell ⟨p, 4, none⟩ (.int .i64 0)).heap.size (wt.setCell ⟨p, 4, none⟩ (.int .i64 0)) ((wt.setCell ⟨p, 4, none⟩ (.int .i64 0)).alloc (.cells #[.int .i64 (cA.st : Int), .int .u32 (cA.gen : Int), .slice p0 m0 k0, .int .i64 (cA.fin : Int)] 69)) := (Below.refl _ _).alloc (Nat.le_refl _) _
            exact h1.trans (Keeps.of h2)
          have hs7 : w7.heap.size = wt.heap.size + 1 := by rw [HW7.out]; simp [World.setCell]
          have hrp : w7.heap[p]? = some (lgRow (.slice (some ⟨ga, 0, none⟩) A.length A.length) (.slice (some ⟨gb, 0, none⟩) B.length B.length) (.slice none 0 0) 0 0 0 0 0) := by
            have h1 : (wt.setCell ⟨p, 4, none⟩ (.int .i64 0)).heap[p]? = some (lgRow (.slice (some ⟨ga, 0, none⟩) A.length A.length) (.slice (some ⟨gb, 0, none⟩) B.length B.length) (.slice none 0 0) 0 0 0 0 0) := by
              have h0 := HLT.out.row
              unfold lgRow at h0 ⊢
              rw [set_cells h0]
              rfl
            rw [HW7.out]
            exact below_keeps ((Below.refl (wt.setCell ⟨p, 4, none⟩ (.int .i64 0)).heap.size _).alloc (Nat.le_refl _) _) h1 (by simpa [World.setCell] using hplt)
          have hrc : w7.heap[cb]? = some (.cells #[.int .i64 (cA.st : Int), .int .u32 (cA.gen : Int), .slice p0 m0 k0, .int .i64 (cA.fin : Int)] 69 (0, 0)) := by
            rw [HW7.out, HCB.out]
            have := heap_alloc_new (wt.setCell ⟨p, 4, none⟩ (.int .i64 0)) (.cells #[.int .i64 (cA.st : Int), .int .u32 (cA.gen : Int), .slice p0 m0 k0, .int .i64 (cA.fin : Int)] 69)
            rw [show (wt.setCell ⟨p, 4, none⟩ (.int .i64 0)).heap.size = wt.heap.size by simp [World.setCell]] at this
            exact this
          obtain ⟨-, -, -, -, -, y5, y6, y7, yf⟩ := lg_cells hrp
          obtain ⟨-, x1, x2, x3, -⟩ := ct_cells hrc
          have hcp : ¬ cb = p := by have := HCB.out; omega
          have hpc : ¬ p = cb := Ne.symm hcp
          have hm : m0 < 4294967296 := by have h1 := HM0.out; have h2 := HCF.out; omega
          have hmw : IntKind.u32.wrap (m0 : Int) = (m0 : Int) := by rw [IntKind.wrap_u32']; omega
          have HREL : Hid (∀ U : World, Keeps (At1 p) w7 U → U.heap[p]? = some (lgRow (.slice (some ⟨ga, 0, none⟩) A.length A.length) (.slice (some ⟨gb, 0, none⟩) B.length B.length) (.slice none 0 0) 0 0 cA.gen m0 cA.fin) → LogX U (fun k => k = p ∨ k = ga ∨ k = gb) p ol ga A.length A.length gb B.length B.length (.slice none 0 0) [] ∧ U.heap[cb]? = some (ctRow cA.st cA.gen (.slice p0 m0 k0) cA.fin) ∧ RecsAt w W.heap.size U (.slice p0 m0 k0) cA.recs ∧ Below w.heap.size w U ∧ wt.heap.size ≤ U.heap.size) := by
            intro U hkU hrU
            have hkt : Keeps (At1 p) wt U := hk7.trans hkU
            have hsU := hkt.size
            have hblt := HBW.out.trans (HT2.out.be.mono HBW.out.size)
            refine ⟨?_, (hkU.block cb (by have := HCB.out; omega) hcp).trans hrc, HT2.out.r0.keepsT hkt HLT.out.row (by decide), hkt.below hblt hblt.size (fun k hk e => by unfold At1 at e; have := (HLO.out p (.inl rfl)).1; omega), hsU⟩
            rw [HL2.out.1]
            refine HLT.out.reset hkt ?_ rfl rfl rfl (fun k hk => Nat.lt_of_lt_of_le (HLT.out.lt k hk) hsU)
            rw [hrU, HM0.out]
            rfl
          clear f0 f1 f2 f3 f4 f5 f6 f7 l0 l1 l2 l3 l4 l5 l6 l7 lf hk7 hrc
          go_cut [8] from 53 (fun pt wx => pt = .pointer (some ⟨cb, 0, none⟩) ∧ Hid (LogX wx (fun k => k = p ∨ k = ga ∨ k = gb) p ol ga A.length A.length gb B.length B.length (.slice none 0 0) [] ∧ wx.heap[cb]? = some (ctRow cA.st cA.gen (.slice p0 m0 k0) cA.fin) ∧ RecsAt w W.heap.size wx (.slice p0 m0 k0) cA.recs ∧ Below w.heap.size w wx ∧ wt.heap.size ≤ wx.heap.size))
          case first =>
            have HRP := hid hrp
            clear hrp
            go_region
            all_goals (
              have hU : ((((w7.setCell ⟨p, 5, none⟩ (.int .u32 (cA.gen : Int))).setCell ⟨p, 6, none⟩ (.int .u32 (m0 : Int))).setCell ⟨p, 7, none⟩ (.int .i64 (cA.fin : Int)))).heap[p]? = some (lgRow (.slice (some ⟨ga, 0, none⟩) A.length A.length) (.slice (some ⟨gb, 0, none⟩) B.length B.length) (.slice none 0 0) 0 0 cA.gen m0 cA.fin) := by
                have h0 := HRP.out
                unfold lgRow at h0 ⊢
                rw [set_cells (set_cells (set_cells h0))]
                rfl
              have hkU := (((Keeps.refl (At1 p) w7).set ⟨p, 5, none⟩ rfl (.int .u32 (cA.gen : Int))).set ⟨p, 6, none⟩ rfl (.int .u32 (m0 : Int))).set ⟨p, 7, none⟩ rfl (.int .i64 (cA.fin : Int))
              have HKU := hid hkU
              have HUU := hid hU
              clear hU hkU
              go_wp2_with fail
              go_meet
              case rel => exact ⟨rfl, HREL.out _ ⟨HKU.out.os, HKU.out.tape, HKU.out.output, HKU.out.size, HKU.out.block⟩ HUU.out⟩)
          case rest =>
          obtain ⟨rfl, HRR⟩ := hcut
          obtain ⟨wr, HWR⟩ : ∃ wr, Hid (wr = wc) := ⟨_, rfl⟩
          rw [← HWR.out] at HRR ⊢
          obtain ⟨-, -, z2, -, -⟩ := ct_cells HRR.out.2.1
          have HOR2 := hid (ownRecords_any (.slice p0 m0 k0) cA.recs wr (HRR.out.2.2.1.sees HRR.out.2.2.2.1) (by have := HCF.out; omega) (fun r hr => by have := HCF.out.2.2.2 r hr; omega))
          clear y5 y6 y7 yf x1 x2 x3 hrp HREL
          go_wp2_with fail
          refine HOR2.out.mono ?_
          rintro _ ws ⟨v', rfl, hnr, hbs⟩
          have HPO : Hid (Opened w ws (fun k => k = p ∨ k = ga ∨ k = gb) wr.heap.size p v' ol orr) := by
            refine ⟨⟨_, _, _, _, _, _, _, _, HRR.out.1.below hbs⟩, HOK.out HE.out, fun k hk => (HLO.out k hk).1, fun k hk => HRR.out.1.lt k hk, HRR.out.2.2.2.1.size, by rw [HL2.out.2]; exact hnr, HRR.out.2.2.2.1.trans (hbs.mono HRR.out.2.2.2.1.size)⟩
          clear hnr hbs
          go_wp2_with fail
          refine bodyPost_ret (v := .tuple #[.pointer (some ⟨p, 0, none⟩), v', .int .i64 0]) (by simp [results, Tryd.results12, go_sem]) rfl ⟨fun e => (by rw [HE.out] at e; cases e), fun _ => ⟨p, _, _, _, rfl, HPO.out⟩⟩
        · rw [hN] at HNW
          have hst := HWB.out hN
          have HCF : Hid (cB.gen < 4294967296 ∧ cB.fin ≤ 1048576 ∧ 16 + 12 * cB.recs.length ≤ cB.fin ∧ ∀ r ∈ cB.recs, r.length ≤ 65536) := by
            rcases HFB.out with ⟨e, -⟩ | e | ⟨e, -⟩ | ⟨-, h1, h2, h3, h4, h5⟩
            · rw [e] at hst; cases hst
            · rw [e] at hst; cases hst
            · rw [e] at hst; cases hst
            · exact ⟨h2, by omega, h4, fun r hr => (h5 r hr).1⟩
          have HL2 : Hid (ol = ⟨A, B, [], 1, cB.gen, cB.recs.length, cB.fin⟩ ∧ orr = cB.recs) := by
            refine ⟨?_, ?_⟩
            · rw [HOL.out, if_neg HW3.out, if_neg (by rw [hN]; decide)]
            · rw [HOR.out, if_neg HW3.out, if_neg (by rw [hN]; decide)]
          clear hst hN
          go_upto_region 9 with fail
          go_wp2_with fail
          refine HNW.out.mono ?_
          rintro _ wt ⟨rfl, hbt⟩
          have HT2 := hid (HU.out.below hbt)
          have HLT := hid (HLU.out.below hbt)
          have hst := hbt.size
          clear hbt f0 f1 f2 f3 f4 f5 f6 f7 l0 l1 l2 l3 l4 l5 l6 l7 lf
          obtain ⟨f0, f1, f2, f3, f4, f5, f6, f7, -⟩ := c8_cells HT2.out.row
          obtain ⟨l0, l1, l2, l3, l4, l5, l6, l7, lf⟩ := lg_cells HLT.out.row
          have hplt : p < wt.heap.size := HLT.out.lt p (.inl rfl)
          have hqlt : q < wt.heap.size := (Array.getElem?_eq_some_iff.1 HT2.out.row).1
          have hpq : ¬ p = q := by
            rintro rfl
            have h1 := HLT.out.row
            rw [HT2.out.row] at h1
            unfold lgRow at h1
            simp at h1
          have hqp : ¬ q = p := Ne.symm hpq
          have i4 : ((4 * 1 : Nat) : Int) = 4 := rfl
          go_upto_region 11 with fail
          obtain ⟨cb, HCB⟩ : ∃ cb, Hid (cb = wt.heap.size) := ⟨_, rfl⟩
          obtain ⟨w7, HW7⟩ : ∃ w7, Hid (w7 = (wt.setCell ⟨p, 4, none⟩ (.int .i64 1)).alloc (.cells #[.int .i64 (cB.st : Int), .int .u32 (cB.gen : Int), .slice p1 m1 k1, .int .i64 (cB.fin : Int)] 69)) := ⟨_, rfl⟩
          rw [← HW7.out, ← HCB.out]
          have hk7 : Keeps (At1 p) wt w7 := by
            rw [HW7.out]
            have h1 : Keeps (At1 p) wt (wt.setCell ⟨p, 4, none⟩ (.int .i64 1)) := (Keeps.refl (At1 p) wt).set ⟨p, 4, none⟩ rfl _
            have h2 : Below (wt.setCell ⟨p, 4, none⟩ (.int .i64 1)).heap.size (wt.setCell ⟨p, 4, none⟩ (.int .i64 1)) ((wt.setCell ⟨p, 4, none⟩ (.int .i64 1)).alloc (.cells #[.int .i64 (cB.st : Int), .int .u32 (cB.gen : Int), .slice p1 m1 k1, .int .i64 (cB.fin : Int)] 69)) := (Below.refl _ _).alloc (Nat.le_refl _) _
            exact h1.trans (Keeps.of h2)
          have hs7 : w7.heap.size = wt.heap.size + 1 := by rw [HW7.out]; simp [World.setCell]
          have hrp : w7.heap[p]? = some (lgRow (.slice (some ⟨ga, 0, none⟩) A.length A.length) (.slice (some ⟨gb, 0, none⟩) B.length B.length) (.slice none 0 0) 0 1 0 0 0) := by
            have h1 : (wt.setCell ⟨p, 4, none⟩ (.int .i64 1)).heap[p]? = some (lgRow (.slice (some ⟨ga, 0, none⟩) A.length A.length) (.slice (some ⟨gb, 0, none⟩) B.length B.length) (.slice none 0 0) 0 1 0 0 0) := by
              have h0 := HLT.out.row
              unfold lgRow at h0 ⊢
              rw [set_cells h0]
              rfl
            rw [HW7.out]
            exact below_keeps ((Below.refl (wt.setCell ⟨p, 4, none⟩ (.int .i64 1)).heap.size _).alloc (Nat.le_refl _) _) h1 (by simpa [World.setCell] using hplt)
          have hrc : w7.heap[cb]? = some (.cells #[.int .i64 (cB.st : Int), .int .u32 (cB.gen : Int), .slice p1 m1 k1, .int .i64 (cB.fin : Int)] 69 (0, 0)) := by
            rw [HW7.out, HCB.out]
            have := heap_alloc_new (wt.setCell ⟨p, 4, none⟩ (.int .i64 1)) (.cells #[.int .i64 (cB.st : Int), .int .u32 (cB.gen : Int), .slice p1 m1 k1, .int .i64 (cB.fin : Int)] 69)
            rw [show (wt.setCell ⟨p, 4, none⟩ (.int .i64 1)).heap.size = wt.heap.size by simp [World.setCell]] at this
            exact this
          obtain ⟨-, -, -, -, -, y5, y6, y7, yf⟩ := lg_cells hrp
          obtain ⟨-, x1, x2, x3, -⟩ := ct_cells hrc
          have hcp : ¬ cb = p := by have := HCB.out; omega
          have hpc : ¬ p = cb := Ne.symm hcp
          have hm : m1 < 4294967296 := by have h1 := HM1.out; have h2 := HCF.out; omega
          have hmw : IntKind.u32.wrap (m1 : Int) = (m1 : Int) := by rw [IntKind.wrap_u32']; omega
          have HREL : Hid (∀ U : World, Keeps (At1 p) w7 U → U.heap[p]? = some (lgRow (.slice (some ⟨ga, 0, none⟩) A.length A.length) (.slice (some ⟨gb, 0, none⟩) B.length B.length) (.slice none 0 0) 0 1 cB.gen m1 cB.fin) → LogX U (fun k => k = p ∨ k = ga ∨ k = gb) p ol ga A.length A.length gb B.length B.length (.slice none 0 0) [] ∧ U.heap[cb]? = some (ctRow cB.st cB.gen (.slice p1 m1 k1) cB.fin) ∧ RecsAt w W.heap.size U (.slice p1 m1 k1) cB.recs ∧ Below w.heap.size w U ∧ wt.heap.size ≤ U.heap.size) := by
            intro U hkU hrU
            have hkt : Keeps (At1 p) wt U := hk7.trans hkU
            have hsU := hkt.size
            have hblt := HBW.out.trans (HT2.out.be.mono HBW.out.size)
            refine ⟨?_, (hkU.block cb (by have := HCB.out; omega) hcp).trans hrc, HT2.out.r1.keepsT hkt HLT.out.row (by decide), hkt.below hblt hblt.size (fun k hk e => by unfold At1 at e; have := (HLO.out p (.inl rfl)).1; omega), hsU⟩
            rw [HL2.out.1]
            refine HLT.out.reset hkt ?_ rfl rfl rfl (fun k hk => Nat.lt_of_lt_of_le (HLT.out.lt k hk) hsU)
            rw [hrU, HM1.out]
            rfl
          clear f0 f1 f2 f3 f4 f5 f6 f7 l0 l1 l2 l3 l4 l5 l6 l7 lf hk7 hrc
          go_cut [8] from 53 (fun pt wx => pt = .pointer (some ⟨cb, 0, none⟩) ∧ Hid (LogX wx (fun k => k = p ∨ k = ga ∨ k = gb) p ol ga A.length A.length gb B.length B.length (.slice none 0 0) [] ∧ wx.heap[cb]? = some (ctRow cB.st cB.gen (.slice p1 m1 k1) cB.fin) ∧ RecsAt w W.heap.size wx (.slice p1 m1 k1) cB.recs ∧ Below w.heap.size w wx ∧ wt.heap.size ≤ wx.heap.size))
          case first =>
            have HRP := hid hrp
            clear hrp
            go_region
            all_goals (
              have hU : ((((w7.setCell ⟨p, 5, none⟩ (.int .u32 (cB.gen : Int))).setCell ⟨p, 6, none⟩ (.int .u32 (m1 : Int))).setCell ⟨p, 7, none⟩ (.int .i64 (cB.fin : Int)))).heap[p]? = some (lgRow (.slice (some ⟨ga, 0, none⟩) A.length A.length) (.slice (some ⟨gb, 0, none⟩) B.length B.length) (.slice none 0 0) 0 1 cB.gen m1 cB.fin) := by
                have h0 := HRP.out
                unfold lgRow at h0 ⊢
                rw [set_cells (set_cells (set_cells h0))]
                rfl
              have hkU := (((Keeps.refl (At1 p) w7).set ⟨p, 5, none⟩ rfl (.int .u32 (cB.gen : Int))).set ⟨p, 6, none⟩ rfl (.int .u32 (m1 : Int))).set ⟨p, 7, none⟩ rfl (.int .i64 (cB.fin : Int))
              have HKU := hid hkU
              have HUU := hid hU
              clear hU hkU
              go_wp2_with fail
              go_meet
              case rel => exact ⟨rfl, HREL.out _ ⟨HKU.out.os, HKU.out.tape, HKU.out.output, HKU.out.size, HKU.out.block⟩ HUU.out⟩)
          case rest =>
          obtain ⟨rfl, HRR⟩ := hcut
          obtain ⟨wr, HWR⟩ : ∃ wr, Hid (wr = wc) := ⟨_, rfl⟩
          rw [← HWR.out] at HRR ⊢
          obtain ⟨-, -, z2, -, -⟩ := ct_cells HRR.out.2.1
          have HOR2 := hid (ownRecords_any (.slice p1 m1 k1) cB.recs wr (HRR.out.2.2.1.sees HRR.out.2.2.2.1) (by have := HCF.out; omega) (fun r hr => by have := HCF.out.2.2.2 r hr; omega))
          clear y5 y6 y7 yf x1 x2 x3 hrp HREL
          go_wp2_with fail
          refine HOR2.out.mono ?_
          rintro _ ws ⟨v', rfl, hnr, hbs⟩
          have HPO : Hid (Opened w ws (fun k => k = p ∨ k = ga ∨ k = gb) wr.heap.size p v' ol orr) := by
            refine ⟨⟨_, _, _, _, _, _, _, _, HRR.out.1.below hbs⟩, HOK.out HE.out, fun k hk => (HLO.out k hk).1, fun k hk => HRR.out.1.lt k hk, HRR.out.2.2.2.1.size, by rw [HL2.out.2]; exact hnr, HRR.out.2.2.2.1.trans (hbs.mono HRR.out.2.2.2.1.size)⟩
          clear hnr hbs
          go_wp2_with fail
          refine bodyPost_ret (v := .tuple #[.pointer (some ⟨p, 0, none⟩), v', .int .i64 0]) (by simp [results, Tryd.results12, go_sem]) rfl ⟨fun e => (by rw [HE.out] at e; cases e), fun _ => ⟨p, _, _, _, rfl, HPO.out⟩⟩
      | false =>
        have HB3 := hid hb3
        have HN3 : Hid (cA.st ≠ 3 ∧ cB.st ≠ 3) := by unfold Hid; simp at hb3; exact hb3
        clear hb3
        go_wp2_with fail
        refine HX.out.mono ?_
        rintro _ w3 ⟨rfl, hb3'⟩
        have HZ1 := hid (HO.out.below hb3')
        have HX2 := hid (HX2'.out w3 HZ1.out)
        obtain ⟨g0, g1, g2, g3, g4, g5, g6, g7, -⟩ := c8_cells HZ1.out.row
        clear hb3' e0 e1 e2 e3 e4 e5 e6 e7
        go_wp2_with fail
        refine HX2.out.mono ?_
        rintro _ w5 ⟨rfl, hb5⟩
        have HZ := hid (HZ1.out.below hb5)
        clear hb5 g0 g1 g2 g3 g4 g5 g6 g7
        obtain ⟨t0, t1, -, -⟩ := ar_cells (HX1.out _ HZ.out.be)
        have hlwz := HBW.out.trans (HZ.out.be.mono HBW.out.size)
        have HOWN := hid (own_any _ _ A B w5 (HVA.out.below hlwz) (HVB.out.below hlwz) (by have := HLA.out; omega) (by have := HLB.out; omega))
        have hsz1 := hlwz.size
        clear hlwz
        go_wp2_with fail
        refine HOWN.out.mono ?_
        rintro _ wy ⟨ga, gb, rfl, hOW⟩
        have HOW := hid hOW
        have HY := hid (HZ.out.below hOW.be)
        have hsz2 := hOW.be.size
        have hgal := hOW.a.lt
        have hgbl := hOW.b.lt
        clear hOW t0 t1
        obtain ⟨wv, HWV⟩ : ∃ wv, Hid (wv = wy.alloc (.cells #[.slice (some ⟨ga, 0, none⟩) A.length A.length, .slice (some ⟨gb, 0, none⟩) B.length B.length, .slice none 0 0, .int .i64 0, .int .i64 0, .int .u32 0, .int .u32 0, .int .i64 0] 76)) := ⟨_, rfl⟩
        have hbv : Below wy.heap.size wy wv := by rw [HWV.out]; exact (Below.refl _ _).alloc (Nat.le_refl _) _
        have HLX := hid (log_new HOW.out HWV.out (by have := HLA.out; omega) (by have := HLB.out; omega))
        have HV := hid (HY.out.below hbv)
        have hsv : wv.heap.size = wy.heap.size + 1 := by rw [HWV.out]; simp
        obtain ⟨p, HP⟩ : ∃ p, Hid (p = wy.heap.size) := ⟨_, rfl⟩
        rw [← HP.out] at HLX
        have HLO : Hid (∀ k, (k = p ∨ k = ga ∨ k = gb) → w.heap.size ≤ k ∧ k < wv.heap.size) := by
          intro k hk
          have := HOW.out.la
          have := HOW.out.lb
          have := HP.out
          rcases hk with rfl | rfl | rfl <;> omega
        obtain ⟨f0, f1, f2, f3, f4, f5, f6, f7, -⟩ := c8_cells HV.out.row
        have HHX := hid (HH3.out wv HV.out)
        rw [HB3.out] at HHX
        clear hbv
        go_upto_region 6 with fail
        rw [← HWV.out, ← HP.out]
        go_wp2_with fail
        refine HHX.out.mono ?_
        rintro _ wu ⟨rfl, hbu⟩
        have HU := hid (HV.out.below hbu)
        have HLU := hid (HLX.out.below hbu)
        have hsu := hbu.size
        clear hbu f0 f1 f2 f3 f4 f5 f6 f7
        have hblu := HBW.out.trans (HU.out.be.mono HBW.out.size)
        have HBG := hid (begin_any _ p 0 1 _ ga _ _ gb _ _ _ (.slice none 0 0) [] [] wu HLU.out (seesBB_nil _) (by simp) (fun r hr => by simp at hr) (by decide) (by decide) (by simp) (by simp [dirt]) (HT.out.below hblu hz))
        clear hblu
        go_wp2_with fail
        refine HBG.out.mono ?_
        rintro _ wt ⟨rfl, hLG, hkp⟩
        have hpost : Opened w wt (NewS (fun k => k = p ∨ k = ga ∨ k = gb) wu.heap.size wt) wt.heap.size p (.slice none 0 0) ol orr := by
          have hblu := HBW.out.trans (HU.out.be.mono HBW.out.size)
          have hlast : ∀ k, NewS (fun k => k = p ∨ k = ga ∨ k = gb) wu.heap.size wt k → w.heap.size ≤ k ∧ k < wt.heap.size := by
            rintro k (hk | ⟨h1, h2⟩)
            · have h1 := HLO.out k hk; have := hkp.size; exact ⟨h1.1, by omega⟩
            · exact ⟨by have := hblu.size; omega, h2⟩
          have eR : orr = [] := by rw [HOR.out, if_pos HN3.out]
          refine ⟨by rw [HOL.out, if_pos HN3.out]; exact hLG, HOK.out HE.out, fun k hk => (hlast k hk).1, fun k hk => (hlast k hk).2, by have := hblu.size; have := hkp.size; omega, by rw [eR]; exact NewRecs.nil _ _, ?_⟩
          exact hkp.below hblu hblu.size (fun k hk e => by have := HLO.out k e; omega)
        have HPO := hid hpost
        clear hpost hLG hkp
        go_wp2_with fail
        refine bodyPost_ret (v := .tuple #[.pointer (some ⟨p, 0, none⟩), .slice none 0 0, .int .i64 0]) (by simp [results, Tryd.results12, go_sem]) rfl ⟨fun e => (by rw [HE.out] at e; cases e), fun _ => ⟨p, _, _, _, rfl, HPO.out⟩⟩
end Go.Proofs.YteoebmpfdcbbmacDoor
