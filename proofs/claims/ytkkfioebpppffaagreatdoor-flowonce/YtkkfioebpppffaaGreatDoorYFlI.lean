import Derived.Test.YtkkfioebpppffaaGreatDoorYFlH
namespace Go.Proofs.YtkkfioebpppffaaGreatDoor.Fl
open Go.Proofs.YtkkfioebpppffaaGreatDoor Go.ChangeShapes Go.WideShapes Go.ChangeAt Go.RowKit Go.Maps N
set_option maxHeartbeats 4000000
set_option maxRecDepth 100000

/-- The state of a flow behind a packet of its own. -/
def nxt (st : Nat) (c : Ct) (back : Bool) : Nat × Bool :=
  match c with
  | .dg _ _ => (if back then 2 else st, true)
  | .ec _ _ => (if back then 2 else st, true)
  | .sg _ _ f => tuN st f back
/-- The state of one that begins. -/
def fst0 (c : Ct) : Nat × Bool :=
  match c with
  | .dg _ _ => (1, true)
  | .ec _ r => (1, r)
  | .sg _ _ f => (3, decide (kd f = 2) && !fl f 1)

theorem stateBehind_any (st : Nat) (c : Ct) (back : Bool) (w : World) (hc : c.Ok) (hst : st < 10) (ht : TabF w) :
    Calls Tryz.prog 26 #[.int .i64 (st : Int), c.v, .bool back] w fun e w' => e = .returned (.tuple #[.int .i64 ((nxt st c back).1 : Int), .bool (nxt st c back).2]) ∧ Below w.heap.size w w' := by
  rcases c with ⟨s, d⟩ | ⟨n, r⟩ | ⟨s, d, f⟩
  case dg =>
    rw [show (Ct.dg s d).v = .iface 102 (.agg #[.int .u16 (s : Int), .int .u16 (d : Int)]) from rfl]
    have ta0 : ∀ u : World, (Instr.typeAssert (.iface 102 (.agg #[.int .u16 (s : Int), .int .u16 (d : Int)])) 73 102 true).run Tryz.prog u = .ok (.tuple #[(.agg #[.int .u16 (s : Int), .int .u16 (d : Int)]), .bool true]) u := fun u => by kernel_rfl
    have ta1 : ∀ u : World, (Instr.typeAssert (.iface 102 (.agg #[.int .u16 (s : Int), .int .u16 (d : Int)])) 73 104 true).run Tryz.prog u = .ok (.tuple #[(.agg #[.int .u16 0, .bool false]), .bool false]) u := fun u => by kernel_rfl
    have ta2 : ∀ u : World, (Instr.typeAssert (.iface 102 (.agg #[.int .u16 (s : Int), .int .u16 (d : Int)])) 73 106 true).run Tryz.prog u = .ok (.tuple #[(.agg #[.int .u16 0, .int .u16 0, .int .u8 0]), .bool false]) u := fun u => by kernel_rfl
    have HE := fun u => exchanged_any st back u
    have HR : Hid (nxt st (.dg s d) back = (if back then 2 else st, true)) := rfl
    generalize nxt st (.dg s d) back = R at *
    generalize (if back then 2 else st : Nat) = x at *
    clear hc hst ht
    go_enter Tryz.func26, Tryz.ntmps26
    go_wp2_with fail
    refine (HE _).mono ?_
    rintro _ w1 ⟨rfl, rfl⟩
    go_wp2_with fail
    refine bodyPost_ret (results_tmp2 Tryz.results26 _ _ _) rfl ?_
    exact ⟨by rw [HR.out]; rfl, Below.refl _ _⟩
  case ec =>
    rw [show (Ct.ec n r).v = .iface 104 (.agg #[.int .u16 (n : Int), .bool r]) from rfl]
    have ta0 : ∀ u : World, (Instr.typeAssert (.iface 104 (.agg #[.int .u16 (n : Int), .bool r])) 73 102 true).run Tryz.prog u = .ok (.tuple #[(.agg #[.int .u16 0, .int .u16 0]), .bool false]) u := fun u => by kernel_rfl
    have ta1 : ∀ u : World, (Instr.typeAssert (.iface 104 (.agg #[.int .u16 (n : Int), .bool r])) 73 104 true).run Tryz.prog u = .ok (.tuple #[(.agg #[.int .u16 (n : Int), .bool r]), .bool true]) u := fun u => by kernel_rfl
    have ta2 : ∀ u : World, (Instr.typeAssert (.iface 104 (.agg #[.int .u16 (n : Int), .bool r])) 73 106 true).run Tryz.prog u = .ok (.tuple #[(.agg #[.int .u16 0, .int .u16 0, .int .u8 0]), .bool false]) u := fun u => by kernel_rfl
    have HE := fun u => exchanged_any st back u
    have HR : Hid (nxt st (.ec n r) back = (if back then 2 else st, true)) := rfl
    generalize nxt st (.ec n r) back = R at *
    generalize (if back then 2 else st : Nat) = x at *
    clear hc hst ht
    go_enter Tryz.func26, Tryz.ntmps26
    go_wp2_with fail
    refine (HE _).mono ?_
    rintro _ w1 ⟨rfl, rfl⟩
    go_wp2_with fail
    refine bodyPost_ret (results_tmp2 Tryz.results26 _ _ _) rfl ?_
    exact ⟨by rw [HR.out]; rfl, Below.refl _ _⟩
  case sg =>
    rw [show (Ct.sg s d f).v = .iface 106 (.agg #[.int .u16 (s : Int), .int .u16 (d : Int), .int .u8 (f : Int)]) from rfl]
    have ta0 : ∀ u : World, (Instr.typeAssert (.iface 106 (.agg #[.int .u16 (s : Int), .int .u16 (d : Int), .int .u8 (f : Int)])) 73 102 true).run Tryz.prog u = .ok (.tuple #[(.agg #[.int .u16 0, .int .u16 0]), .bool false]) u := fun u => by kernel_rfl
    have ta1 : ∀ u : World, (Instr.typeAssert (.iface 106 (.agg #[.int .u16 (s : Int), .int .u16 (d : Int), .int .u8 (f : Int)])) 73 104 true).run Tryz.prog u = .ok (.tuple #[(.agg #[.int .u16 0, .bool false]), .bool false]) u := fun u => by kernel_rfl
    have ta2 : ∀ u : World, (Instr.typeAssert (.iface 106 (.agg #[.int .u16 (s : Int), .int .u16 (d : Int), .int .u8 (f : Int)])) 73 106 true).run Tryz.prog u = .ok (.tuple #[(.agg #[.int .u16 (s : Int), .int .u16 (d : Int), .int .u8 (f : Int)]), .bool true]) u := fun u => by kernel_rfl
    have HT : Hid (∀ u, Below w.heap.size w u → Calls Tryz.prog 44 #[.agg #[.int .u16 (s : Int), .int .u16 (d : Int), .int .u8 (f : Int)], .int .i64 (st : Int), .bool back] u fun e w' => e = .returned (.tuple #[.int .i64 ((tuN st f back).1 : Int), .bool (tuN st f back).2]) ∧ Below u.heap.size u w') := fun u hu => turn_any s d f st back u hc.2.2 hst (ht.below hu)
    have HR : Hid (nxt st (.sg s d f) back = tuN st f back) := rfl
    generalize nxt st (.sg s d f) back = R at *
    generalize tuN st f back = R2 at *
    obtain ⟨x, y⟩ := R2
    have HB1 : Hid (Below w.heap.size w (w.alloc (.cells #[.int .u16 0, .int .u16 0, .int .u8 0] 106))) := (Below.refl _ _).alloc (Nat.le_refl _) _
    have HN : Hid ((w.alloc (.cells #[.int .u16 0, .int .u16 0, .int .u8 0] 106)).heap[w.heap.size]? = some (.cells #[.int .u16 0, .int .u16 0, .int .u8 0] 106 (0, 0))) := heap_alloc_new _ _
    have HLD : Hid (∀ u, u.heap[w.heap.size]? = some (.cells #[.int .u16 (s : Int), .int .u16 (d : Int), .int .u8 (f : Int)] 106 (0, 0)) → (Instr.loadAt 106 (.pointer (some ⟨w.heap.size, 0, none⟩))).run Tryz.prog u = .ok (.agg #[.int .u16 (s : Int), .int .u16 (d : Int), .int .u8 (f : Int)]) u) := fun u r0 => by
      obtain ⟨q, hq1, hq2⟩ : ∃ q, Tryz.prog.underlying 106 = some q ∧ q.isRow = true := ⟨_, Tryz.underlying106, rfl⟩
      exact load_at (cs := [.int .u16 (s : Int), .int .u16 (d : Int), .int .u8 (f : Int)]) r0 rfl hq1 hq2 (by kernel_rfl)
    clear hc hst ht
    go_enter Tryz.func26, Tryz.ntmps26
    go_upto_region 7 with (first | (refine wpList_st rfl 106 (.tmp 9) (.tmp 23) rfl w.heap.size #[.int .u16 (s : Int), .int .u16 (d : Int), .int .u8 (f : Int)] rfl rfl _ _ HN.out (by kernel_rfl) rfl (by simp [Value.oneCell']) ?_; intro w2 hw2 hbut2) | fail)
    have l2 := hid (HLD.out w2 hw2)
    have HB2 := hid (hbut2.below HB1.out (by simp) (Nat.le_refl _))
    clear hw2 hbut2
    go_wp2_with (first | (refine wpList_ld 106 ⟨w.heap.size, 0, none⟩ (.tmp 9) rfl rfl l2.out rfl ?_) | fail)
    refine (HT.out w2 HB2.out).mono ?_
    rintro _ w3 ⟨rfl, hb3⟩
    have HB3 := hid (HB2.out.trans (hb3.mono HB2.out.size))
    clear hb3
    go_wp2_with fail
    refine bodyPost_ret (results_tmp2 Tryz.results26 _ _ _) rfl ?_
    exact ⟨by rw [HR.out]; rfl, HB3.out⟩

theorem firstState_any (c : Ct) (w : World) (hc : c.Ok) :
    Calls Tryz.prog 23 #[c.v] w fun e w' => e = .returned (.tuple #[.int .i64 ((fst0 c).1 : Int), .bool (fst0 c).2]) ∧ Below w.heap.size w w' := by
  rcases c with ⟨s, d⟩ | ⟨n, r⟩ | ⟨s, d, f⟩
  case dg =>
    rw [show (Ct.dg s d).v = .iface 102 (.agg #[.int .u16 (s : Int), .int .u16 (d : Int)]) from rfl]
    have ta0 : ∀ u : World, (Instr.typeAssert (.iface 102 (.agg #[.int .u16 (s : Int), .int .u16 (d : Int)])) 73 102 true).run Tryz.prog u = .ok (.tuple #[(.agg #[.int .u16 (s : Int), .int .u16 (d : Int)]), .bool true]) u := fun u => by kernel_rfl
    have ta1 : ∀ u : World, (Instr.typeAssert (.iface 102 (.agg #[.int .u16 (s : Int), .int .u16 (d : Int)])) 73 104 true).run Tryz.prog u = .ok (.tuple #[(.agg #[.int .u16 0, .bool false]), .bool false]) u := fun u => by kernel_rfl
    have ta2 : ∀ u : World, (Instr.typeAssert (.iface 102 (.agg #[.int .u16 (s : Int), .int .u16 (d : Int)])) 73 106 true).run Tryz.prog u = .ok (.tuple #[(.agg #[.int .u16 0, .int .u16 0, .int .u8 0]), .bool false]) u := fun u => by kernel_rfl
    have HN : Hid ((w.alloc (.cells #[.int .u16 0, .int .u16 0] 102)).heap[w.heap.size]? = some (.cells #[.int .u16 0, .int .u16 0] 102 (0, 0))) := heap_alloc_new _ _
    have HB1 : Hid (Below w.heap.size w (w.alloc (.cells #[.int .u16 0, .int .u16 0] 102))) := (Below.refl _ _).alloc (Nat.le_refl _) _
    clear hc
    go_enter Tryz.func23, Tryz.ntmps23
    go_wp2_with (first | (refine wpList_st rfl 102 (.tmp 4) (.tmp 10) rfl w.heap.size #[.int .u16 (s : Int), .int .u16 (d : Int)] rfl rfl _ _ HN.out (by kernel_rfl) rfl (by simp [Value.oneCell']) ?_; intro w2 hw2 hbut2) | fail)
    refine bodyPost_ret (results_tmp2 Tryz.results23 _ _ _) rfl ?_
    exact ⟨rfl, hbut2.below HB1.out (by simp) (Nat.le_refl _)⟩
  case ec =>
    rw [show (Ct.ec n r).v = .iface 104 (.agg #[.int .u16 (n : Int), .bool r]) from rfl]
    have ta0 : ∀ u : World, (Instr.typeAssert (.iface 104 (.agg #[.int .u16 (n : Int), .bool r])) 73 102 true).run Tryz.prog u = .ok (.tuple #[(.agg #[.int .u16 0, .int .u16 0]), .bool false]) u := fun u => by kernel_rfl
    have ta1 : ∀ u : World, (Instr.typeAssert (.iface 104 (.agg #[.int .u16 (n : Int), .bool r])) 73 104 true).run Tryz.prog u = .ok (.tuple #[(.agg #[.int .u16 (n : Int), .bool r]), .bool true]) u := fun u => by kernel_rfl
    have ta2 : ∀ u : World, (Instr.typeAssert (.iface 104 (.agg #[.int .u16 (n : Int), .bool r])) 73 106 true).run Tryz.prog u = .ok (.tuple #[(.agg #[.int .u16 0, .int .u16 0, .int .u8 0]), .bool false]) u := fun u => by kernel_rfl
    have HN : Hid ((w.alloc (.cells #[.int .u16 0, .bool false] 104)).heap[w.heap.size]? = some (.cells #[.int .u16 0, .bool false] 104 (0, 0))) := heap_alloc_new _ _
    have HB1 : Hid (Below w.heap.size w (w.alloc (.cells #[.int .u16 0, .bool false] 104))) := (Below.refl _ _).alloc (Nat.le_refl _) _
    clear hc
    go_enter Tryz.func23, Tryz.ntmps23
    go_upto_region 7 with (first | (refine wpList_st rfl 104 (.tmp 5) (.tmp 13) rfl w.heap.size #[.int .u16 (n : Int), .bool r] rfl rfl _ _ HN.out (by kernel_rfl) rfl (by simp [Value.oneCell']) ?_; intro w2 hw2 hbut2) | fail)
    have cr : w2.cell? ⟨w.heap.size, 1, none⟩ = some (.bool r) := by rw [cell_of_row _ _ _ _ _ _ hw2]; rfl
    have HB2 := hid (hbut2.below HB1.out (by simp) (Nat.le_refl _))
    clear hw2 hbut2
    go_quiet (fail)
    go_wp2_with fail
    refine bodyPost_ret (results_tmp2 Tryz.results23 _ _ _) rfl ?_
    exact ⟨rfl, below_drewN HB2.out _⟩
  case sg =>
    rw [show (Ct.sg s d f).v = .iface 106 (.agg #[.int .u16 (s : Int), .int .u16 (d : Int), .int .u8 (f : Int)]) from rfl]
    have ta0 : ∀ u : World, (Instr.typeAssert (.iface 106 (.agg #[.int .u16 (s : Int), .int .u16 (d : Int), .int .u8 (f : Int)])) 73 102 true).run Tryz.prog u = .ok (.tuple #[(.agg #[.int .u16 0, .int .u16 0]), .bool false]) u := fun u => by kernel_rfl
    have ta1 : ∀ u : World, (Instr.typeAssert (.iface 106 (.agg #[.int .u16 (s : Int), .int .u16 (d : Int), .int .u8 (f : Int)])) 73 104 true).run Tryz.prog u = .ok (.tuple #[(.agg #[.int .u16 0, .bool false]), .bool false]) u := fun u => by kernel_rfl
    have ta2 : ∀ u : World, (Instr.typeAssert (.iface 106 (.agg #[.int .u16 (s : Int), .int .u16 (d : Int), .int .u8 (f : Int)])) 73 106 true).run Tryz.prog u = .ok (.tuple #[(.agg #[.int .u16 (s : Int), .int .u16 (d : Int), .int .u8 (f : Int)]), .bool true]) u := fun u => by kernel_rfl
    have HN : Hid ((w.alloc (.cells #[.int .u16 0, .int .u16 0, .int .u8 0] 106)).heap[w.heap.size]? = some (.cells #[.int .u16 0, .int .u16 0, .int .u8 0] 106 (0, 0))) := heap_alloc_new _ _
    have HB1 : Hid (Below w.heap.size w (w.alloc (.cells #[.int .u16 0, .int .u16 0, .int .u8 0] 106))) := (Below.refl _ _).alloc (Nat.le_refl _) _
    have HLD : Hid (∀ u, u.heap[w.heap.size]? = some (.cells #[.int .u16 (s : Int), .int .u16 (d : Int), .int .u8 (f : Int)] 106 (0, 0)) → (Instr.loadAt 106 (.pointer (some ⟨w.heap.size, 0, none⟩))).run Tryz.prog u = .ok (.agg #[.int .u16 (s : Int), .int .u16 (d : Int), .int .u8 (f : Int)]) u) := fun u r0 => by
      obtain ⟨q, hq1, hq2⟩ : ∃ q, Tryz.prog.underlying 106 = some q ∧ q.isRow = true := ⟨_, Tryz.underlying106, rfl⟩
      exact load_at (cs := [.int .u16 (s : Int), .int .u16 (d : Int), .int .u8 (f : Int)]) r0 rfl hq1 hq2 (by kernel_rfl)
    have HK := fun u => kind_any s d f u hc.2.2
    have HH : ∀ u : World, Calls Tryz.prog 39 #[.agg #[.int .u16 (s : Int), .int .u16 (d : Int), .int .u8 (f : Int)], .int .u8 1] u fun e w' => e = .returned (.bool (fl f 1)) ∧ Below u.heap.size u w' := fun u => has_any s d f 1 u hc.2.2 (by omega)
    have HR : Hid (fst0 (.sg s d f) = (3, decide (kd f = 2) && !fl f 1)) := rfl
    generalize fst0 (.sg s d f) = R at *
    generalize kd f = k at *
    generalize fl f 1 = b at *
    clear hc
    have HST : Hid (∀ w2 : World, w2.heap[w.heap.size]? = some (.cells #[.int .u16 (s : Int), .int .u16 (d : Int), .int .u8 (f : Int)] 106 (0, 0)) → ∀ w3 : World, Below w2.heap.size w2 w3 → (Instr.loadAt 106 (.pointer (some ⟨w.heap.size, 0, none⟩))).run Tryz.prog w3 = .ok (.agg #[.int .u16 (s : Int), .int .u16 (d : Int), .int .u8 (f : Int)]) w3) := fun w2 h2 w3 h3 => HLD.out w3 (below_keeps h3 h2 (Array.getElem?_eq_some_iff.1 h2).1)
    by_cases hk : k = 2
    case' pos => have q1 : ((k : Int) == 2) = true := by simp; omega
    case' neg => have q1 : ((k : Int) == 2) = false := by simp; omega
    all_goals (
      have HKK := hid hk
      clear hk
      go_enter Tryz.func23, Tryz.ntmps23
      go_upto_region 10 with (first | (refine wpList_st rfl 106 (.tmp 6) (.tmp 18) rfl w.heap.size #[.int .u16 (s : Int), .int .u16 (d : Int), .int .u8 (f : Int)] rfl rfl _ _ HN.out (by kernel_rfl) rfl (by simp [Value.oneCell']) ?_; intro w2 hw2 hbut2) | fail)
      have l2 := hid (HST.out w2 hw2 w2 (Below.refl _ _))
      have L2 := hid (HST.out w2 hw2)
      have HB2 := hid (hbut2.below HB1.out (by simp) (Nat.le_refl _))
      clear hw2 hbut2
      go_wp2_with (first | (refine wpList_ld 106 ⟨w.heap.size, 0, none⟩ (.tmp 6) rfl rfl l2.out rfl ?_) | fail)
      refine (HK _).mono ?_
      rintro _ w3 ⟨rfl, hb3⟩
      have l3 := hid (L2.out _ hb3)
      have HB3 := hid (HB2.out.trans (hb3.mono HB2.out.size))
      clear hb3)
    · go_wp2_with fail
      refine bodyPost_ret (results_tmp2 Tryz.results23 _ _ _) rfl ?_
      exact ⟨by rw [HR.out, decide_eq_false HKK.out]; rfl, HB3.out⟩
    · go_wp2_with (first | (refine wpList_ld 106 ⟨w.heap.size, 0, none⟩ (.tmp 6) rfl rfl l3.out rfl ?_) | fail)
      refine (HH _).mono ?_
      rintro _ w4 ⟨rfl, hb4⟩
      have HB4 := hid (HB3.out.trans (hb4.mono HB3.out.size))
      clear hb4
      go_wp2_with fail
      refine bodyPost_ret (results_tmp2 Tryz.results23 _ _ _) rfl ?_
      exact ⟨by rw [HR.out, HKK.out]; rfl, HB4.out⟩

end Go.Proofs.YtkkfioebpppffaaGreatDoor.Fl
