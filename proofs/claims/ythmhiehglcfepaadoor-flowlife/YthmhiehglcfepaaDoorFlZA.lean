import Derived.Test.YthmhiehglcfepaaDoorFlY
import Derived.OrdersHeld
import Derived.Deep.RegionHeld
namespace Go.Proofs.YthmhiehglcfepaaDoor.Fl
open Go.Proofs.YthmhiehglcfepaaDoor Go.ChangeShapes Go.WideShapes Go.ChangeAt Go.RowKit Go.Maps N
set_option maxHeartbeats 4000000
set_option maxRecDepth 100000

theorem wpOp_of {P : Program} {ops : Array Oper} {Q : Exit → Act → World → Prop} {i : Nat} {K : Act → World → Prop} {a : Act} {w : World} {o : Oper} (ho : ops[i]? = some o) (hg : o.guard = none) (h : o.wp P a w K Q) : wpOp P ops Q i K a w := by
  unfold wpOp
  simp only [ho, Region.wanted, hg, if_true]
  exact .inl h
theorem pe (a : Act) (t : Nat) (h : t < a.tmps.size) (v : Value) : (a.put (some t) v).eval (.tmp t) = v := eval_put_eq a h v
theorem put_size (a : Act) (d : Tmp) (v : Value) : (a.put (some d) v).tmps.size = a.tmps.size := by simp [Act.put]
theorem alloc_tu (u : World) : (Instr.alloc 26 true (.tuple #[])).run Tryd.prog u = .ok (.pointer (some ⟨u.heap.size, 0, none⟩)) (u.alloc (.cells zTu.cells 26)) := by kernel_rfl

abbrev opsA : Array Oper :=
  #[{ dst := some 74, op := Op.load 26 (Operand.tmp 6), type := 26, pos := "outright.go:112", after := #[], guard := none },
    { dst := some 75, op := Op.load 26 (Operand.tmp 7), type := 26, pos := "outright.go:112", after := #[{ on := 4, ground := Ground.gcOnly Departure.lateStores }], guard := none },
    { dst := some 17, op := Op.alloc 26, type := 0, pos := "outright.go:112", after := #[], guard := none },
    { dst := some 18, op := Op.alloc 26, type := 0, pos := "outright.go:112", after := #[], guard := none },
    { dst := none, op := Op.store 26 (Operand.tmp 17) (Operand.tmp 74), type := 0, pos := "outright.go:112", after := #[{ on := 2, ground := Ground.data }, { on := 0, ground := Ground.data }, { on := 0, ground := Ground.phase }, { on := 1, ground := Ground.textOnly Departure.lateStores }, { on := 2, ground := Ground.phase }, { on := 3, ground := Ground.phase }], guard := none },
    { dst := none, op := Op.store 26 (Operand.tmp 18) (Operand.tmp 75), type := 0, pos := "outright.go:112", after := #[{ on := 3, ground := Ground.data }, { on := 1, ground := Ground.data }, { on := 4, ground := Ground.chain }, { on := 0, ground := Ground.phase }, { on := 1, ground := Ground.phase }, { on := 2, ground := Ground.phase }, { on := 3, ground := Ground.phase }, { on := 4, ground := Ground.phase }], guard := none }]
abbrev opsB : Array Oper :=
  #[{ dst := some 77, op := Op.load 26 (Operand.tmp 7), type := 26, pos := "outright.go:115", after := #[], guard := none },
    { dst := some 78, op := Op.load 26 (Operand.tmp 6), type := 26, pos := "outright.go:115", after := #[{ on := 2, ground := Ground.gcOnly Departure.lateStores }], guard := none },
    { dst := none, op := Op.store 26 (Operand.tmp 17) (Operand.tmp 77), type := 0, pos := "outright.go:115", after := #[{ on := 0, ground := Ground.data }, { on := 0, ground := Ground.phase }, { on := 1, ground := Ground.textOnly Departure.lateStores }], guard := none },
    { dst := none, op := Op.store 26 (Operand.tmp 18) (Operand.tmp 78), type := 0, pos := "outright.go:115", after := #[{ on := 1, ground := Ground.data }, { on := 2, ground := Ground.chain }, { on := 0, ground := Ground.phase }, { on := 1, ground := Ground.phase }, { on := 2, ground := Ground.phase }], guard := none }]

theorem kp_mem {S : Nat → Prop} {w w' : World} {k : Nat} {o : Obj} (h : Me.Keeps S w w') (hk : w.heap[k]? = some o) (hn : ¬ S k) : w'.heap[k]? = some o := (h.block k (Array.getElem?_eq_some_iff.1 hk).1 hn).trans hk
abbrev ptr (g : Nat) : Value := .pointer (some ⟨g, 0, none⟩)
theorem regA {Q : Exit → Act → World → Prop} {a : Act} {w : World} {p0 p1 : Addr} {t0 t1 : Tu} (hsz : 75 < a.tmps.size) (hQ : ∀ c (a : Act) (d : Tmp) v w, Q (.panic c) (a.put (some d) v) w → Q (.panic c) a w)
    (h6 : a.eval (.tmp 6) = .pointer (some p0)) (h7 : a.eval (.tmp 7) = .pointer (some p1))
    (hl : ∀ u, Below w.heap.size w u → (Instr.loadAt 26 (.pointer (some p0))).run Tryd.prog u = .ok (.agg t0.cells) u ∧ (Instr.loadAt 26 (.pointer (some p1))).run Tryd.prog u = .ok (.agg t1.cells) u)
    (hK : ∀ g h u, g ≠ h → w.heap.size ≤ g → w.heap.size ≤ h → u.heap[g]? = some (.cells t0.cells 26 (0, 0)) → u.heap[h]? = some (.cells t1.cells 26 (0, 0)) → Below w.heap.size w u → wpList Tryd.prog opsA Q [] ((((a.put (some 74) (.agg t0.cells)).put (some 75) (.agg t1.cells)).put (some 17) (ptr g)).put (some 18) (ptr h)) u) :
    (Code.region 18 opsA true).wp Tryd.prog Q a w := by
  have hS : Below w.heap.size w w.drew := below_drew (Below.refl _ _)
  obtain ⟨A0, HA⟩ : ∃ A0, A0 = (a.put (some 74) (.agg t0.cells)).put (some 75) (.agg t1.cells) := ⟨_, rfl⟩
  rw [← HA] at hK
  have z0 : A0.tmps.size = a.tmps.size := by rw [HA, put_size, put_size]
  have i74 : A0.eval (.tmp 74) = .agg t0.cells := by rw [HA, eval_put_ne _ (by decide)]; exact pe a 74 (by omega) _
  have i75 : A0.eval (.tmp 75) = .agg t1.cells := by rw [HA]; exact pe _ 75 (by rw [put_size]; omega) _
  have HEND : ∀ (g h : Nat) (u : World) (listed : Array Bool), Region.ready .any opsA listed = [4] → Region.ready .any opsA (listed.setIfInBounds 4 true) = [5] → Region.ready .any opsA ((listed.setIfInBounds 4 true).setIfInBounds 5 true) = [] → g ≠ h → w.heap.size ≤ g → w.heap.size ≤ h → u.heap[g]? = some (.cells zTu.cells 26 (0, 0)) → u.heap[h]? = some (.cells zTu.cells 26 (0, 0)) → Below w.heap.size w u → wpAnyH Tryd.prog .any opsA Q (fun u => Below w.heap.size w u) 2 listed ((A0.put (some 17) (ptr g)).put (some 18) (ptr h)) u := by
    intro g h u listed r1 r2 r3 hne hg hh rg rh hb
    have j17 : ((A0.put (some 17) (ptr g)).put (some 18) (ptr h)).eval (.tmp 17) = ptr g := by rw [eval_put_ne _ (by decide)]; exact pe A0 17 (by omega) _
    have j18 : ((A0.put (some 17) (ptr g)).put (some 18) (ptr h)).eval (.tmp 18) = ptr h := pe _ 18 (by rw [put_size]; omega) _
    have j74 : ((A0.put (some 17) (ptr g)).put (some 18) (ptr h)).eval (.tmp 74) = .agg t0.cells := by rw [eval_put_ne _ (by decide), eval_put_ne _ (by decide), i74]
    have j75 : ((A0.put (some 17) (ptr g)).put (some 18) (ptr h)).eval (.tmp 75) = .agg t1.cells := by rw [eval_put_ne _ (by decide), eval_put_ne _ (by decide), i75]
    refine wpAnyH_all (rs := [4]) r1 (by simp) fun i hi => ?_
    obtain rfl : i = 4 := by simpa using hi
    refine wpOp_of rfl rfl ?_
    refine wp_store_row 26 (.tmp 17) (.tmp 74) rfl g t0.cells j17 j74 26 zTu.cells rg (by kernel_rfl) rfl t0.one ?_
    have b1 := But.setRow g u t0.cells
    have s1 := setRow_heap u g zTu.cells t0.cells 26 (0, 0) rg
    have bl1 := b1.below hb hb.size hg
    have rh1 := (b1.block h (Array.getElem?_eq_some_iff.1 rh).1 (Ne.symm hne)).trans rh
    refine ⟨bl1, ?_⟩
    refine wpAnyH_all (rs := [5]) r2 (by simp) fun i hi => ?_
    obtain rfl : i = 5 := by simpa using hi
    refine wpOp_of rfl rfl ?_
    refine wp_store_row 26 (.tmp 18) (.tmp 75) rfl h t1.cells j18 j75 26 zTu.cells rh1 (by kernel_rfl) rfl t1.one ?_
    have b2 := But.setRow h (u.setRow g t0.cells) t1.cells
    have s2 := setRow_heap (u.setRow g t0.cells) h zTu.cells t1.cells 26 (0, 0) rh1
    have bl2 := b2.below bl1 bl1.size hh
    refine ⟨bl2, ?_⟩
    exact wpAnyH_done r3 (hK g h _ hne hg hh ((b2.block g (Array.getElem?_eq_some_iff.1 s1).1 hne).trans s1) s2 bl2) 0
  refine wp_region_held_drew (S := fun u => Below w.heap.size w u) (by kernel_rfl) hS (fun _ => ?_)
  show wpAnyH Tryd.prog .any opsA Q (fun u => Below w.heap.size w u) 6 (Array.replicate 6 false) a w.drew
  refine wpAnyH_take (i := 0) (v := .agg t0.cells) rfl (by kernel_rfl) (by kernel_rfl) (by kernel_rfl) (fun c a w h => hQ c a _ _ w h) (.inl ⟨rfl, fun u hu => ex_load _ p0 (.tmp 6) _ rfl h6 (hl u hu).1⟩) hS ?_
  refine wpAnyH_take (i := 1) (v := .agg t1.cells) rfl (by kernel_rfl) (by kernel_rfl) (by kernel_rfl) (fun c a w h => hQ c a _ _ w h) (.inl ⟨rfl, fun u hu => ex_load _ p1 (.tmp 7) _ rfl ((eval_put_ne a (by decide) _).trans h7) (hl u hu).2⟩) hS ?_
  show wpAnyH Tryd.prog .any opsA Q (fun u => Below w.heap.size w u) 4 _ ((a.put (some 74) (.agg t0.cells)).put (some 75) (.agg t1.cells)) w.drew
  rw [← HA]
  have u1 : (w.drew.alloc (.cells zTu.cells 26)).heap[w.drew.heap.size]? = some (.cells zTu.cells 26 (0, 0)) := heap_alloc_new _ _
  have B1 : Below w.drew.heap.size w.drew (w.drew.alloc (.cells zTu.cells 26)) := (Below.refl _ _).alloc (Nat.le_refl _) _
  have S1 : Below w.heap.size w (w.drew.alloc (.cells zTu.cells 26)) := hS.trans (B1.mono hS.size)
  obtain ⟨v1, HV1⟩ : ∃ v1, v1 = w.drew.alloc (.cells zTu.cells 26) := ⟨_, rfl⟩
  rw [← HV1] at u1 B1 S1
  have z1 : v1.heap.size = w.drew.heap.size + 1 := by rw [HV1, World.size_alloc]
  have u2 : (v1.alloc (.cells zTu.cells 26)).heap[v1.heap.size]? = some (.cells zTu.cells 26 (0, 0)) := heap_alloc_new _ _
  have B2 : Below v1.heap.size v1 (v1.alloc (.cells zTu.cells 26)) := (Below.refl _ _).alloc (Nat.le_refl _) _
  have S2 := S1.trans (B2.mono S1.size)
  have u3 := below_keeps B2 u1 (by omega)
  have hd := hS.size
  refine wpAnyH_all (rs := [2, 3]) (by kernel_rfl) (by simp) fun i hi => ?_
  simp only [List.mem_cons, List.not_mem_nil, or_false] at hi
  rcases hi with rfl | rfl
  · refine wpOp_of rfl rfl (wp_val (ex_alloc _ rfl alloc_tu) ?_)
    rw [← HV1]
    refine ⟨S1, wpAnyH_all (rs := [3]) (by kernel_rfl) (by simp) fun i hi => ?_⟩
    obtain rfl : i = 3 := by simpa using hi
    refine wpOp_of rfl rfl (wp_val (ex_alloc _ rfl alloc_tu) ?_)
    exact ⟨S2, HEND w.drew.heap.size v1.heap.size _ _ (by kernel_rfl) (by kernel_rfl) (by kernel_rfl) (by omega) hd (by omega) u3 u2 S2⟩
  · refine wpOp_of rfl rfl (wp_val (ex_alloc _ rfl alloc_tu) ?_)
    rw [← HV1]
    refine ⟨S1, wpAnyH_all (rs := [2]) (by kernel_rfl) (by simp) fun i hi => ?_⟩
    obtain rfl : i = 2 := by simpa using hi
    refine wpOp_of rfl rfl (wp_val (ex_alloc _ rfl alloc_tu) ?_)
    refine ⟨S2, ?_⟩
    show wpAnyH _ _ _ _ _ 2 _ ((A0.put (some 18) (ptr w.drew.heap.size)).put (some 17) (ptr v1.heap.size)) _
    rw [Act.put_comm _ _ _ (by intro d hd; cases hd; decide)]
    exact HEND v1.heap.size w.drew.heap.size _ _ (by kernel_rfl) (by kernel_rfl) (by kernel_rfl) (by omega) (by omega) hd u2 u3 S2

theorem regB {Q : Exit → Act → World → Prop} {a : Act} {w : World} {p0 p1 : Addr} {t0 t1 : Tu} {g h : Nat} {og oh : Array Value} (hsz : 78 < a.tmps.size) (hQ : ∀ c (a : Act) (d : Tmp) v w, Q (.panic c) (a.put (some d) v) w → Q (.panic c) a w)
    (h6 : a.eval (.tmp 7) = .pointer (some p0)) (h7 : a.eval (.tmp 6) = .pointer (some p1)) (h17 : a.eval (.tmp 17) = ptr g) (h18 : a.eval (.tmp 18) = ptr h)
    (hne : g ≠ h) (sg : og.size = 5) (sh : oh.size = 5) (rg : w.heap[g]? = some (.cells og 26 (0, 0))) (rh : w.heap[h]? = some (.cells oh 26 (0, 0)))
    (hl : ∀ u, Me.Keeps (fun k => k = g ∨ k = h) w u → (Instr.loadAt 26 (.pointer (some p0))).run Tryd.prog u = .ok (.agg t0.cells) u ∧ (Instr.loadAt 26 (.pointer (some p1))).run Tryd.prog u = .ok (.agg t1.cells) u)
    (hK : ∀ u, u.heap[g]? = some (.cells t0.cells 26 (0, 0)) → u.heap[h]? = some (.cells t1.cells 26 (0, 0)) → Me.Keeps (fun k => k = g ∨ k = h) w u → wpList Tryd.prog opsB Q [] ((a.put (some 77) (.agg t0.cells)).put (some 78) (.agg t1.cells)) u) :
    (Code.region 21 opsB true).wp Tryd.prog Q a w := by
  have hS : Me.Keeps (fun k => k = g ∨ k = h) w w.drew := Me.Keeps.of (below_drew (Below.refl _ _))
  refine wp_region_held_drew (S := fun u => Me.Keeps (fun k => k = g ∨ k = h) w u) (by kernel_rfl) hS (fun _ => ?_)
  show wpAnyH Tryd.prog .any opsB Q (fun u => Me.Keeps (fun k => k = g ∨ k = h) w u) 4 (Array.replicate 4 false) a w.drew
  refine wpAnyH_take (i := 0) (v := .agg t0.cells) rfl (by kernel_rfl) (by kernel_rfl) (by kernel_rfl) (fun c a w h => hQ c a _ _ w h) (.inl ⟨rfl, fun u hu => ex_load _ p0 (.tmp 7) _ rfl h6 (hl u hu).1⟩) hS ?_
  refine wpAnyH_take (i := 1) (v := .agg t1.cells) rfl (by kernel_rfl) (by kernel_rfl) (by kernel_rfl) (fun c a w h => hQ c a _ _ w h) (.inl ⟨rfl, fun u hu => ex_load _ p1 (.tmp 6) _ rfl ((eval_put_ne a (by decide) _).trans h7) (hl u hu).2⟩) hS ?_
  have e17 : ((a.put (some 77) (.agg t0.cells)).put (some 78) (.agg t1.cells)).eval (.tmp 17) = ptr g := by rw [eval_put_ne _ (by decide), eval_put_ne _ (by decide), h17]
  have e18 : ((a.put (some 77) (.agg t0.cells)).put (some 78) (.agg t1.cells)).eval (.tmp 18) = ptr h := by rw [eval_put_ne _ (by decide), eval_put_ne _ (by decide), h18]
  have e77 : ((a.put (some 77) (.agg t0.cells)).put (some 78) (.agg t1.cells)).eval (.tmp 77) = .agg t0.cells := by rw [eval_put_ne _ (by decide)]; exact pe a 77 (by omega) _
  have e78 : ((a.put (some 77) (.agg t0.cells)).put (some 78) (.agg t1.cells)).eval (.tmp 78) = .agg t1.cells := pe _ 78 (by rw [put_size]; omega) _
  have dg : w.drew.heap[g]? = some (.cells og 26 (0, 0)) := rg
  have dh : w.drew.heap[h]? = some (.cells oh 26 (0, 0)) := rh
  refine wpAnyH_all (rs := [2]) (by kernel_rfl) (by simp) fun i hi => ?_
  obtain rfl : i = 2 := by simpa using hi
  refine wpOp_of rfl rfl ?_
  refine wp_store_row 26 (.tmp 17) (.tmp 77) rfl g t0.cells e17 e77 26 og dg (by kernel_rfl) sg t0.one ?_
  have b1 := But.setRow g w.drew t0.cells
  have s1 := setRow_heap w.drew g og t0.cells 26 (0, 0) dg
  have k1 := hS.trans ((But.kp b1).mono fun k _ e => .inl e)
  have rh1 := (b1.block h (Array.getElem?_eq_some_iff.1 dh).1 (Ne.symm hne)).trans dh
  refine ⟨k1, wpAnyH_all (rs := [3]) (by kernel_rfl) (by simp) fun i hi => ?_⟩
  obtain rfl : i = 3 := by simpa using hi
  refine wpOp_of rfl rfl ?_
  refine wp_store_row 26 (.tmp 18) (.tmp 78) rfl h t1.cells e18 e78 26 oh rh1 (by kernel_rfl) sh t1.one ?_
  have b2 := But.setRow h (w.drew.setRow g t0.cells) t1.cells
  have s2 := setRow_heap (w.drew.setRow g t0.cells) h oh t1.cells 26 (0, 0) rh1
  have k2 := k1.trans ((But.kp b2).mono fun k _ e => .inr e)
  exact ⟨k2, wpAnyH_done (by kernel_rfl) (hK _ ((b2.block g (Array.getElem?_eq_some_iff.1 s1).1 hne).trans s1) s2 k2) 0⟩
end Go.Proofs.YthmhiehglcfepaaDoor.Fl
