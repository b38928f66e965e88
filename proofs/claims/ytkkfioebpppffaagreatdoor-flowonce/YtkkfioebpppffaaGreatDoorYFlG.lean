import Derived.Test.YtkkfioebpppffaaGreatDoorYFlF
namespace Go.Proofs.YtkkfioebpppffaaGreatDoor.Fl
open Go.Proofs.YtkkfioebpppffaaGreatDoor Go.ChangeShapes Go.WideShapes Go.ChangeAt Go.RowKit Go.Maps N
set_option maxHeartbeats 4000000
set_option maxRecDepth 100000

theorem kind_any (s d f : Nat) (w : World) (hf : f < 256) : Calls Tryz.prog 38 #[.agg #[.int .u16 (s : Int), .int .u16 (d : Int), .int .u8 (f : Int)]] w fun e w' => e = .returned (.int .i64 (kd f : Int)) ∧ Below w.heap.size w w' := by
  obtain ⟨w0, HW0⟩ : ∃ w0, Hid (w0 = w.alloc (.cells #[.int .u16 (s : Int), .int .u16 (d : Int), .int .u8 (f : Int)] 106)) := ⟨_, rfl⟩
  have hb0 : Below w.heap.size w w0 := by rw [HW0.out]; exact (Below.refl _ _).alloc (Nat.le_refl _) _
  obtain ⟨b, HB⟩ : ∃ b, Hid (b = w.heap.size) := ⟨_, rfl⟩
  have r0 : w0.heap[b]? = some (.cells #[.int .u16 (s : Int), .int .u16 (d : Int), .int .u8 (f : Int)] 106 (0, 0)) := by rw [HW0.out, HB.out]; exact heap_alloc_new w _
  have hbs := (Array.getElem?_eq_some_iff.1 r0).1
  have HH : Hid (∀ (m : Nat) u, (m = 1 ∨ m = 2 ∨ m = 4 ∨ m = 16) → Calls Tryz.prog 39 #[.agg #[.int .u16 (s : Int), .int .u16 (d : Int), .int .u8 (f : Int)], .int .u8 (m : Int)] u fun e w' => e = .returned (.bool (fl f m)) ∧ Below u.heap.size u w') := fun m u hm => has_any s d f m u hf hm
  have HLD : Hid (∀ u, Below w0.heap.size w0 u → (Instr.loadAt 106 (.pointer (some ⟨b, 0, none⟩))).run Tryz.prog u = .ok (.agg #[.int .u16 (s : Int), .int .u16 (d : Int), .int .u8 (f : Int)]) u) := fun u hu => by
    obtain ⟨q, hq1, hq2⟩ : ∃ q, Tryz.prog.underlying 106 = some q ∧ q.isRow = true := ⟨_, Tryz.underlying106, rfl⟩
    exact load_at (cs := [.int .u16 (s : Int), .int .u16 (d : Int), .int .u8 (f : Int)]) (below_keeps hu r0 hbs) rfl hq1 hq2 (by kernel_rfl)
  have HB0 := hid hb0
  have hsz : w.heap.size ≤ w0.heap.size := hb0.size
  have HK : Hid (kd f = if fl f 4 then 1 else if fl f 2 && fl f 16 then 3 else if fl f 2 then 2 else if fl f 1 then 4 else if fl f 16 then 5 else 0) := rfl
  generalize kd f = k at *
  obtain ⟨b4, h4⟩ : ∃ x, x = fl f 4 := ⟨_, rfl⟩
  obtain ⟨b2, h2⟩ : ∃ x, x = fl f 2 := ⟨_, rfl⟩
  obtain ⟨b1, h1⟩ : ∃ x, x = fl f 1 := ⟨_, rfl⟩
  obtain ⟨b16, h16⟩ : ∃ x, x = fl f 16 := ⟨_, rfl⟩
  have H4 : Hid (∀ u, Calls Tryz.prog 39 #[.agg #[.int .u16 (s : Int), .int .u16 (d : Int), .int .u8 (f : Int)], .int .u8 4] u fun e w' => e = .returned (.bool b4) ∧ Below u.heap.size u w') := fun u => by rw [h4]; exact HH.out 4 u (by omega)
  have H2 : Hid (∀ u, Calls Tryz.prog 39 #[.agg #[.int .u16 (s : Int), .int .u16 (d : Int), .int .u8 (f : Int)], .int .u8 2] u fun e w' => e = .returned (.bool b2) ∧ Below u.heap.size u w') := fun u => by rw [h2]; exact HH.out 2 u (by omega)
  have H1 : Hid (∀ u, Calls Tryz.prog 39 #[.agg #[.int .u16 (s : Int), .int .u16 (d : Int), .int .u8 (f : Int)], .int .u8 1] u fun e w' => e = .returned (.bool b1) ∧ Below u.heap.size u w') := fun u => by rw [h1]; exact HH.out 1 u (by omega)
  have H16 : Hid (∀ u, Calls Tryz.prog 39 #[.agg #[.int .u16 (s : Int), .int .u16 (d : Int), .int .u8 (f : Int)], .int .u8 16] u fun e w' => e = .returned (.bool b16) ∧ Below u.heap.size u w') := fun u => by rw [h16]; exact HH.out 16 u (by omega)
  rw [← h4, ← h2, ← h1, ← h16] at HK
  clear hb0 r0 hbs hf h4 h2 h1 h16 HH
  have HBz := hid (Below.refl w0.heap.size w0)
  go_enter Tryz.func38, Tryz.ntmps38
  go_upto_region 1 with fail
  rw [← HW0.out, ← HB.out]
  have l0 := hid (HLD.out _ HBz.out)
  go_wp2_with (first | (refine wpList_ld 106 ⟨b, 0, none⟩ (.tmp 1) rfl rfl l0.out rfl ?_) | fail)
  refine (H4.out _).mono ?_
  rintro _ w1 ⟨rfl, hb1⟩
  have HB1 := hid (HBz.out.trans hb1)
  clear hb1
  have HFIN1 : Hid (Below w.heap.size w w1) := HB0.out.trans (HB1.out.mono hsz)
  have l1 := hid (HLD.out _ HB1.out)
  cases b4
  · go_wp2_with (first | (refine wpList_ld 106 ⟨b, 0, none⟩ (.tmp 1) rfl rfl l1.out rfl ?_) | fail)
    refine (H2.out _).mono ?_
    rintro _ w2 ⟨rfl, hb2⟩
    have HB2 := hid (HB1.out.trans (hb2.mono HB1.out.size))
    clear hb2
    have l2 := hid (HLD.out _ HB2.out)
    cases b2
    · go_wp2_with (first | (refine wpList_ld 106 ⟨b, 0, none⟩ (.tmp 1) rfl rfl l2.out rfl ?_) | fail)
      refine (H2.out _).mono ?_
      rintro _ w3 ⟨rfl, hb3⟩
      have HB3 := hid (HB2.out.trans (hb3.mono HB2.out.size))
      clear hb3
      have l3 := hid (HLD.out _ HB3.out)
      go_wp2_with (first | (refine wpList_ld 106 ⟨b, 0, none⟩ (.tmp 1) rfl rfl l3.out rfl ?_) | fail)
      refine (H1.out _).mono ?_
      rintro _ w4 ⟨rfl, hb4⟩
      have HB4 := hid (HB3.out.trans (hb4.mono HB3.out.size))
      clear hb4
      cases b1
      · have l4 := hid (HLD.out _ HB4.out)
        go_wp2_with (first | (refine wpList_ld 106 ⟨b, 0, none⟩ (.tmp 1) rfl rfl l4.out rfl ?_) | fail)
        refine (H16.out _).mono ?_
        rintro _ w5 ⟨rfl, hb5⟩
        have HB5 := hid (HB4.out.trans (hb5.mono HB4.out.size))
        clear hb5
        cases b16
        · go_wp2_with fail
          go_ret
          exact ⟨by rw [HK.out]; rfl, HB0.out.trans (HB5.out.mono hsz)⟩
        · go_wp2_with fail
          go_ret
          exact ⟨by rw [HK.out]; rfl, HB0.out.trans (HB5.out.mono hsz)⟩
      · go_wp2_with fail
        go_ret
        exact ⟨by rw [HK.out]; rfl, HB0.out.trans (HB4.out.mono hsz)⟩
    · go_wp2_with (first | (refine wpList_ld 106 ⟨b, 0, none⟩ (.tmp 1) rfl rfl l2.out rfl ?_) | fail)
      refine (H16.out _).mono ?_
      rintro _ w3 ⟨rfl, hb3⟩
      have HB3 := hid (HB2.out.trans (hb3.mono HB2.out.size))
      clear hb3
      cases b16
      · have l3 := hid (HLD.out _ HB3.out)
        go_wp2_with (first | (refine wpList_ld 106 ⟨b, 0, none⟩ (.tmp 1) rfl rfl l3.out rfl ?_) | fail)
        refine (H2.out _).mono ?_
        rintro _ w4 ⟨rfl, hb4⟩
        have HB4 := hid (HB3.out.trans (hb4.mono HB3.out.size))
        clear hb4
        go_wp2_with fail
        go_ret
        exact ⟨by rw [HK.out]; rfl, HB0.out.trans (HB4.out.mono hsz)⟩
      · go_wp2_with fail
        go_ret
        exact ⟨by rw [HK.out]; rfl, HB0.out.trans (HB3.out.mono hsz)⟩
  · go_wp2_with fail
    go_ret
    exact ⟨by rw [HK.out]; rfl, HFIN1.out⟩

theorem exchanged_any (st : Nat) (back : Bool) (w : World) : Calls Tryz.prog 43 #[.int .i64 (st : Int), .bool back] w fun e w' => e = .returned (.int .i64 ((if back then 2 else st : Nat) : Int)) ∧ w' = w := by
  cases back
  · go_enter Tryz.func43, Tryz.ntmps43
    go_wp2_with fail
    go_ret
    exact ⟨rfl, rfl⟩
  · go_enter Tryz.func43, Tryz.ntmps43
    go_wp2_with fail
    go_ret
    exact ⟨rfl, rfl⟩

/-- What a segment brings a flow to. -/
def tuN (st f : Nat) (back : Bool) : Nat × Bool := if kd f = 1 then (8, true) else (tN st (kd f) back, !decide (tN st (kd f) back = 0))
def mvC (st : Nat) (back : Bool) : Array Value := #[.int .u8 (tN st 0 back : Int), .int .u8 (tN st 1 back : Int), .int .u8 (tN st 2 back : Int), .int .u8 (tN st 3 back : Int), .int .u8 (tN st 4 back : Int), .int .u8 (tN st 5 back : Int)]
theorem mvC_one (st : Nat) (back : Bool) : (mvC st back).all (·.oneCell') = true := by simp [mvC, Value.oneCell']
theorem mvC_at (st : Nat) (back : Bool) (k : Nat) (hk : k < 6) : (mvC st back)[k]? = some (.int .u8 (tN st k back : Int)) := by
  match k, hk with
  | 0, _ => rfl
  | 1, _ => rfl
  | 2, _ => rfl
  | 3, _ => rfl
  | 4, _ => rfl
  | 5, _ => rfl
theorem isMv : ∃ d, Tryz.prog.underlying 137 = some d ∧ d.isRow = true := ⟨_, (by kernel_rfl : Tryz.prog.underlying 137 = some (.array 6 5)), rfl⟩
theorem load_mv {w : World} (ht : TabF w) (st : Nat) (hst : st < 10) (back : Bool) : (Instr.loadAt 137 (.pointer (some ⟨1, st * 12 + (if back then 6 else 0), none⟩))).run Tryz.prog w = .ok (.agg (mvC st back)) w := by
  obtain ⟨d, hd1, hd2⟩ := isMv
  refine run_loadAt_mid w _ _ 137 (mvC st back).toList d (fun j v hv => ?_) hd1 hd2 (by kernel_rfl)
  have hj : j < 6 := (List.getElem?_eq_some_iff.1 hv).1
  rw [Array.getElem?_toList, mvC_at st back j hj] at hv
  cases hv
  rw [ht.tn _ (by cases back <;> simp <;> omega)]
  rfl
end Go.Proofs.YtkkfioebpppffaaGreatDoor.Fl
