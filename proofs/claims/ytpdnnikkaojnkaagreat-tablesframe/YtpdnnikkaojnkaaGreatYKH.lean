import Derived.Test.YtpdnnikkaojnkaaGreatYKG
namespace Go.Proofs.YtpdnnikkaojnkaaGreat.Rt
open Go.Proofs.YtpdnnikkaojnkaaGreat Go.ChangeShapes Go.WideShapes Go.ChangeAt Go.RowKit Go.Maps Tri N
set_option maxHeartbeats 4000000
set_option maxRecDepth 100000
def LR (R : List Vt) (a : Nat) : Option Vt -> Prop
 | some v => v ∈ R /\ hasK v.k a = true /\ ∀ u ∈ R, hasK u.k a = true -> u.k.n <= v.k.n
 | none => ∀ u ∈ R, hasK u.k a = false
theorem LR.one {R : List Vt} {a : Nat} {x y : Option Vt} (hn : Nod Tri.Vt.key R) (hok : ∀ v ∈ R, v.Ok) (hx : LR R a x) (hy : LR R a y) : x = y := by
 cases x with
 | none =>
  cases y with
  | none => rfl
  | some v => have := hx v hy.1; rw [hy.2.1] at this; cases this
 | some v =>
  cases y with
  | none => have := hy v hx.1; rw [hx.2.1] at this; cases this
  | some u =>
   have e1 := hx.2.2 u hy.1 hy.2.1
   have e2 := hy.2.2 v hx.1 hx.2.1
   obtain ⟨k1, n1⟩ := Vt_k_ok (hok v hx.1)
   obtain ⟨k2, n2⟩ := Vt_k_ok (hok u hy.1)
   have hn' : v.k.n = u.k.n := by omega
   have hvk := hx.2.1
   have huk := hy.2.1
   unfold hasK at hvk huk
   simp only [decide_eq_true_eq] at hvk huk
   have hs : v.k.s = u.k.s := by unfold K.s; rw [hn']
   have h3 : u.k.s ∣ v.k.x := by rw [<- hs]; exact k1.2.1
   have hx' : v.k.x = u.k.x := by
    rcases Nat.lt_trichotomy v.k.x u.k.x with h' | h' | h'
    ·have := Tri.step h3 k2.2.1 h'; omega
    ·exact h'
    ·have := Tri.step k2.2.1 h3 h'; omega
   have hk : v.key = u.key := (Vt_key_k (hok v hx.1) (hok u hy.1)).2 (K.ext' hx' hn')
   have h1 := lk_mem hn hx.1
   rw [hk, lk_mem hn hy.1] at h1
   exact h1.symm
theorem Hld.lr {lo hi : Nat} {t : Tr} {R : List Vt} (h : Hld t R) (hW : WF lo hi t) (a : Nat) : LR R a ((find t a).map Prod.snd) := by
 cases hf : find t a with
 | none =>
  intro u hu
  cases hk : hasK u.k a with
  | false => rfl
  | true =>
   obtain ⟨f, h1, _⟩ := find_best hW ((h.mem u.k u).2 ⟨hu, rfl⟩) hk
   rw [hf] at h1; cases h1
 | some e =>
  obtain ⟨k, v⟩ := e
  obtain ⟨h1, h2⟩ := find_mem hf
  obtain ⟨h3, h4⟩ := (h.mem k v).1 h1
  refine ⟨h3, by rw [h4]; exact h2, fun u hu hk => ?_⟩
  obtain ⟨f, g1, g2⟩ := find_best hW ((h.mem u.k u).2 ⟨hu, rfl⟩) hk
  rw [hf] at g1
  obtain rfl := Option.some.inj g1
  rw [h4]; exact g2
def zVt : Vt := ⟨0, 0, 0, false⟩
theorem longest_any {X : Nat -> Prop} {rb tb room : Nat} {R : List Vt} (w : World) (a : Nat) (h : RtAt w X rb tb room R) :
  Calls Tryz.prog 24 #[.pointer (some ⟨rb, 0, none⟩), .int .u32 (a : Int)] w fun e w' => ∃ r, LR R a r /\ e = .returned (.tuple #[.agg (r.getD zVt).cells, .bool r.isSome]) /\ Below w.heap.size w w' := by
 obtain ⟨w1, hw1⟩ : ∃ w1, w1 = w.alloc (.cells #[.int .u32 0, .int .i64 0, .int .u32 0, .bool false] 38) := ⟨_, rfl⟩
 have hs1 : w1.heap.size = w.heap.size + 1 := by rw [hw1]; simp
 have hb1 : Below w.heap.size w w1 := by rw [hw1]; exact bR.alloc nL _
 have r0 : w1.heap[w.heap.size]? = some (.cells #[.int .u32 0, .int .i64 0, .int .u32 0, .bool false] 38) := by rw [hw1]; exact heap_alloc_new w _
 have h1 := h.below hb1
 obtain ⟨-, c1⟩ := h1.cells
 obtain ⟨t, ht, hh⟩ := h1.tree
 have hlr := hh.lr ht.wf a
 have HW1 := hid hw1
 have HS1 := hid hs1
 have HB1 := hid hb1
 have HR0 := hid r0
 cases hf : find t a with
 | none =>
  rw [hf] at hlr
  have HLR : Hid (LR R a none) := hlr
  have HF := hid (find_none a w1 ht hf)
  clear hw1 hs1 hb1 r0 h h1 ht hh hlr hf
  go_enter Tryz.func24, Tryz.ntmps24
  go_upto_region 1 with fail
  rw [<- HW1.out]
  go_wp2_with fail
  refine HF.out.mono ?_
  rintro _ w2 ⟨rfl, hb2⟩
  obtain ⟨w3, hw3⟩ : ∃ w3, w3 = (w2.alloc (.cells #[.int .u32 0, .int .i64 0] 36)).alloc (.cells #[.int .u32 0, .int .i64 0, .int .u32 0, .bool false] 38) := ⟨_, rfl⟩
  have hb3 : Below w2.heap.size w2 w3 := by rw [hw3]; exact (bR.alloc nL _).alloc (by simp) _
  have r3 : w3.heap[w2.heap.size + 1]? = some (.cells #[.int .u32 0, .int .i64 0, .int .u32 0, .bool false] 38) := by
   have := heap_alloc_new (w2.alloc (.cells #[.int .u32 0, .int .i64 0] 36)) (.cells #[.int .u32 0, .int .i64 0, .int .u32 0, .bool false] 38)
   rw [World.size_alloc] at this
   rw [hw3]; exact this
  have r0 : w3.heap[w.heap.size]? = some (.cells #[.int .u32 0, .int .i64 0, .int .u32 0, .bool false] 38) := below_keeps hb3 (below_keeps hb2 HR0.out (by have := HS1.out; omega)) (by have := HS1.out; have := hb2.size; omega)
  have HW3 := hid hw3
  have HB3 : Hid (Below w.heap.size w w3) := (HB1.out.trans (hb2.mono HB1.out.size)).trans (hb3.mono (by have := HS1.out; have := hb2.size; omega))
  have x0 : w3.cell? ⟨w2.heap.size + 1, 0, none⟩ = some (.int .u32 0) := crw r3 rfl
  have x1 : w3.cell? ⟨w2.heap.size + 1, 1, none⟩ = some (.int .i64 0) := crw r3 rfl
  have x2 : w3.cell? ⟨w2.heap.size + 1, 2, none⟩ = some (.int .u32 0) := crw r3 rfl
  have x3 : w3.cell? ⟨w2.heap.size + 1, 3, none⟩ = some (.bool false) := crw r3 rfl
  have y0 : w3.cell? ⟨w.heap.size, 0, none⟩ = some (.int .u32 0) := crw r0 rfl
  have z0 : w3.frozen? ⟨w.heap.size, 0, none⟩ = false := frozen_of_row _ _ _ _ _ r0
  have y1 : w3.cell? ⟨w.heap.size, 1, none⟩ = some (.int .i64 0) := crw r0 rfl
  have z1 : w3.frozen? ⟨w.heap.size, 1, none⟩ = false := frozen_of_row _ _ _ _ _ r0
  have y2 : w3.cell? ⟨w.heap.size, 2, none⟩ = some (.int .u32 0) := crw r0 rfl
  have z2 : w3.frozen? ⟨w.heap.size, 2, none⟩ = false := frozen_of_row _ _ _ _ _ r0
  have y3 : w3.cell? ⟨w.heap.size, 3, none⟩ = some (.bool false) := crw r0 rfl
  have z3 : w3.frozen? ⟨w.heap.size, 3, none⟩ = false := frozen_of_row _ _ _ _ _ r0
  obtain ⟨wf, hwf⟩ : ∃ wf, wf = ((((w3.setCell ⟨w.heap.size, 0, none⟩ (.int .u32 0)).setCell ⟨w.heap.size, 1, none⟩ (.int .i64 0)).setCell ⟨w.heap.size, 2, none⟩ (.int .u32 0)).setCell ⟨w.heap.size, 3, none⟩ (.bool false)) := ⟨_, rfl⟩
  have cf : Chg (fun b => b = w.heap.size) w3 wf := by rw [hwf]; exact ((((Chg.of_but (X := fun b => b = w.heap.size) (But.set _ 0 _ _) rfl).trans (Chg.of_but (X := fun b => b = w.heap.size) (But.set _ 1 _ _) rfl)).trans (Chg.of_but (X := fun b => b = w.heap.size) (But.set _ 2 _ _) rfl)).trans (Chg.of_but (X := fun b => b = w.heap.size) (But.set _ 3 _ _) rfl))
  have rf : wf.heap[w.heap.size]? = some (.cells #[.int .u32 0, .int .i64 0, .int .u32 0, .bool false] 38) := by rw [hwf]; exact (set_row (set_row (set_row (set_row r0))))
  have HWF := hid hwf
  have HFF : Hid (Below w.heap.size w wf /\ wf.heap[w.heap.size]? = some (.cells #[.int .u32 0, .int .i64 0, .int .u32 0, .bool false] 38)) := ⟨cf.below' HB3.out HB3.out.size (fun j hj => by omega), rf⟩
  clear hw3 hb3 r3 r0 hwf cf rf hb2
  go_upto_region 2 with fail
  rw [<- HW3.out]
  go_wp2_with fail
  rw [<- HWF.out]
  obtain ⟨hbf, rf⟩ := HFF.out
  have u0 : wf.cell? ⟨w.heap.size, 0, none⟩ = some (.int .u32 0) := crw rf rfl
  have u1 : wf.cell? ⟨w.heap.size, 1, none⟩ = some (.int .i64 0) := crw rf rfl
  have u2 : wf.cell? ⟨w.heap.size, 2, none⟩ = some (.int .u32 0) := crw rf rfl
  have u3 : wf.cell? ⟨w.heap.size, 3, none⟩ = some (.bool false) := crw rf rfl
  refine bodyPost_ret (v := .tuple #[.agg #[.int .u32 0, .int .i64 0, .int .u32 0, .bool false], .bool false]) (by simp [results, Tryz.results24, go_sem, u0, u1, u2, u3]) rfl ⟨_, HLR.out, rfl, hbf⟩
 | some e =>
  obtain ⟨k, v⟩ := e
  rw [hf] at hlr
  have HLR : Hid (LR R a (some v)) := hlr
  have HF := hid (find_some a w1 ht hf)
  unfold foundV pv at HF
  clear hw1 hs1 hb1 r0 h h1 ht hh hlr hf
  go_enter Tryz.func24, Tryz.ntmps24
  go_upto_region 1 with fail
  rw [<- HW1.out]
  go_wp2_with fail
  refine HF.out.mono ?_
  rintro _ w2 ⟨rfl, hb2⟩
  obtain ⟨w3, hw3⟩ : ∃ w3, w3 = (w2.alloc (.cells #[.int .u32 (k.x : Int), .int .i64 (k.n : Int)] 36)).alloc (.cells #[.int .u32 (v.x : Int), .int .i64 v.n, .int .u32 (v.via : Int), .bool v.loc] 38) := ⟨_, rfl⟩
  have hb3 : Below w2.heap.size w2 w3 := by rw [hw3]; exact (bR.alloc nL _).alloc (by simp) _
  have r3 : w3.heap[w2.heap.size + 1]? = some (.cells #[.int .u32 (v.x : Int), .int .i64 v.n, .int .u32 (v.via : Int), .bool v.loc] 38) := by
   have := heap_alloc_new (w2.alloc (.cells #[.int .u32 (k.x : Int), .int .i64 (k.n : Int)] 36)) (.cells #[.int .u32 (v.x : Int), .int .i64 v.n, .int .u32 (v.via : Int), .bool v.loc] 38)
   rw [World.size_alloc] at this
   rw [hw3]; exact this
  have r0 : w3.heap[w.heap.size]? = some (.cells #[.int .u32 0, .int .i64 0, .int .u32 0, .bool false] 38) := below_keeps hb3 (below_keeps hb2 HR0.out (by have := HS1.out; omega)) (by have := HS1.out; have := hb2.size; omega)
  have HW3 := hid hw3
  have HB3 : Hid (Below w.heap.size w w3) := (HB1.out.trans (hb2.mono HB1.out.size)).trans (hb3.mono (by have := HS1.out; have := hb2.size; omega))
  have x0 : w3.cell? ⟨w2.heap.size + 1, 0, none⟩ = some (.int .u32 (v.x : Int)) := crw r3 rfl
  have x1 : w3.cell? ⟨w2.heap.size + 1, 1, none⟩ = some (.int .i64 v.n) := crw r3 rfl
  have x2 : w3.cell? ⟨w2.heap.size + 1, 2, none⟩ = some (.int .u32 (v.via : Int)) := crw r3 rfl
  have x3 : w3.cell? ⟨w2.heap.size + 1, 3, none⟩ = some (.bool v.loc) := crw r3 rfl
  have y0 : w3.cell? ⟨w.heap.size, 0, none⟩ = some (.int .u32 0) := crw r0 rfl
  have z0 : w3.frozen? ⟨w.heap.size, 0, none⟩ = false := frozen_of_row _ _ _ _ _ r0
  have y1 : w3.cell? ⟨w.heap.size, 1, none⟩ = some (.int .i64 0) := crw r0 rfl
  have z1 : w3.frozen? ⟨w.heap.size, 1, none⟩ = false := frozen_of_row _ _ _ _ _ r0
  have y2 : w3.cell? ⟨w.heap.size, 2, none⟩ = some (.int .u32 0) := crw r0 rfl
  have z2 : w3.frozen? ⟨w.heap.size, 2, none⟩ = false := frozen_of_row _ _ _ _ _ r0
  have y3 : w3.cell? ⟨w.heap.size, 3, none⟩ = some (.bool false) := crw r0 rfl
  have z3 : w3.frozen? ⟨w.heap.size, 3, none⟩ = false := frozen_of_row _ _ _ _ _ r0
  obtain ⟨wf, hwf⟩ : ∃ wf, wf = ((((w3.setCell ⟨w.heap.size, 0, none⟩ (.int .u32 (v.x : Int))).setCell ⟨w.heap.size, 1, none⟩ (.int .i64 v.n)).setCell ⟨w.heap.size, 2, none⟩ (.int .u32 (v.via : Int))).setCell ⟨w.heap.size, 3, none⟩ (.bool v.loc)) := ⟨_, rfl⟩
  have cf : Chg (fun b => b = w.heap.size) w3 wf := by rw [hwf]; exact ((((Chg.of_but (X := fun b => b = w.heap.size) (But.set _ 0 _ _) rfl).trans (Chg.of_but (X := fun b => b = w.heap.size) (But.set _ 1 _ _) rfl)).trans (Chg.of_but (X := fun b => b = w.heap.size) (But.set _ 2 _ _) rfl)).trans (Chg.of_but (X := fun b => b = w.heap.size) (But.set _ 3 _ _) rfl))
  have rf : wf.heap[w.heap.size]? = some (.cells #[.int .u32 (v.x : Int), .int .i64 v.n, .int .u32 (v.via : Int), .bool v.loc] 38) := by rw [hwf]; exact (set_row (set_row (set_row (set_row r0))))
  have HWF := hid hwf
  have HFF : Hid (Below w.heap.size w wf /\ wf.heap[w.heap.size]? = some (.cells #[.int .u32 (v.x : Int), .int .i64 v.n, .int .u32 (v.via : Int), .bool v.loc] 38)) := ⟨cf.below' HB3.out HB3.out.size (fun j hj => by omega), rf⟩
  clear hw3 hb3 r3 r0 hwf cf rf hb2
  go_upto_region 2 with fail
  rw [<- HW3.out]
  go_wp2_with fail
  rw [<- HWF.out]
  obtain ⟨hbf, rf⟩ := HFF.out
  have u0 : wf.cell? ⟨w.heap.size, 0, none⟩ = some (.int .u32 (v.x : Int)) := crw rf rfl
  have u1 : wf.cell? ⟨w.heap.size, 1, none⟩ = some (.int .i64 v.n) := crw rf rfl
  have u2 : wf.cell? ⟨w.heap.size, 2, none⟩ = some (.int .u32 (v.via : Int)) := crw rf rfl
  have u3 : wf.cell? ⟨w.heap.size, 3, none⟩ = some (.bool v.loc) := crw rf rfl
  refine bodyPost_ret (v := .tuple #[.agg #[.int .u32 (v.x : Int), .int .i64 v.n, .int .u32 (v.via : Int), .bool v.loc], .bool true]) (by simp [results, Tryz.results24, go_sem, u0, u1, u2, u3]) rfl ⟨_, HLR.out, rfl, hbf⟩
theorem emptyR_any {X : Nat -> Prop} {rb tb room : Nat} {R : List Vt} (w : World) (h : RtAt w X rb tb room R) :
  Calls Tryz.prog 27 #[.pointer (some ⟨rb, 0, none⟩)] w fun e w' => e = .returned (.tuple #[]) /\ RtAt w' (fun b => X b \/ b = w.heap.size) rb w.heap.size room [] /\ Chg (fun b => b = rb) w w' /\ w.heap.size < w'.heap.size := by
 obtain ⟨w1, hw1⟩ : ∃ w1, w1 = w.alloc (.cells #[.pointer none] 139) := ⟨_, rfl⟩
 have hs1 : w1.heap.size = w.heap.size + 1 := by rw [hw1]; simp
 have hb1 : Below w.heap.size w w1 := by rw [hw1]; exact bR.alloc nL _
 have rt : w1.heap[w.heap.size]? = some (.cells #[.pointer none] 139) := by rw [hw1]; exact heap_alloc_new w _
 have hrow := below_keeps hb1 h.row h.lt.1
 have c1 : w1.cell? ⟨rb, 1, none⟩ = some (.pointer (some ⟨tb, 0, none⟩)) := crw hrow rfl
 have f1 : w1.frozen? ⟨rb, 1, none⟩ = false := frozen_of_row _ _ _ _ _ hrow
 have HN := hid (new_any w)
 rw [<- hw1] at HN
 obtain ⟨w2, hw2⟩ : ∃ w2, w2 = w1.setCell ⟨rb, 1, none⟩ (.pointer (some ⟨w.heap.size, 0, none⟩)) := ⟨_, rfl⟩
 have bt : But rb w1 w2 := by rw [hw2]; exact But.set _ _ _ _
 have HFIN : Hid (RtAt w2 (fun b => X b \/ b = w.heap.size) rb w.heap.size room [] /\ Chg (fun b => b = rb) w w2 /\ w.heap.size < w2.heap.size) := by
  have hlt := h.lt
  have hsz := bt.size
  have hX : ∀ b, X b -> b < w.heap.size := by
   obtain ⟨t, ht, _⟩ := h.tree
   exact ht.lt
  refine ⟨⟨by rw [hw2]; exact set_row hrow, ⟨.nil, ⟨.inr rfl, fun b hb => ?_, ⟨.nil, (bt.block _ (by omega) (by omega)).trans rt, rfl, trivial⟩, trivial⟩, Hld.nil⟩, ⟨Nat.zero_le _, h.le.2⟩, .inl h.xr, by omega⟩, (Chg.of_below hb1).trans (Chg.of_but bt rfl), by omega⟩
  rcases hb with hb | hb
  ·have := hX b hb; omega
  ·omega
 have HW2 := hid hw2
 clear hw1 hs1 hb1 rt hrow h hw2 bt
 go_enter Tryz.func27, Tryz.ntmps27
 go_wp2_with fail
 refine HN.out.mono ?_
 rintro _ _ ⟨rfl, ew⟩
 obtain rfl := ew.symm
 go_wp2_with fail
 rw [<- HW2.out]
 exact bodyPost_end (results_none Tryz.results27 _ _ _) rfl ⟨rfl, HFIN.out⟩
theorem newR_any (w : World) (room : Nat) (_hr : 1 <= room /\ room <= 256) :
  Calls Tryz.prog 15 #[.int .i64 (room : Int)] w fun e w' => e = .returned (.pointer (some ⟨w.heap.size + 1, 0, none⟩)) /\ w' = (w.alloc (.cells #[.pointer none] 139)).alloc (.cells #[.int .i64 (room : Int), .pointer (some ⟨w.heap.size, 0, none⟩)] 96) := by
 have HN := hid (new_any w)
 obtain ⟨w1, hw1⟩ : ∃ w1, w1 = w.alloc (.cells #[.pointer none] 139) := ⟨_, rfl⟩
 have hs1 : w1.heap.size = w.heap.size + 1 := by rw [hw1]; simp
 rw [<- hw1] at HN ⊢
 have HS1 := hid hs1
 clear hw1 hs1
 go_enter Tryz.func15, Tryz.ntmps15
 go_wp2_with fail
 refine HN.out.mono ?_
 rintro _ _ ⟨rfl, ew⟩
 obtain rfl := ew.symm
 go_wp2_with fail
 go_ret
 exact ⟨by rw [<- HS1.out]; rfl, rfl⟩
theorem rt_new (w : World) (room : Nat) (hr : 1 <= room /\ room <= 256) {w' : World} (hw : w' = (w.alloc (.cells #[.pointer none] 139)).alloc (.cells #[.int .i64 (room : Int), .pointer (some ⟨w.heap.size, 0, none⟩)] 96)) {w2 : World} (hb : Below w'.heap.size w' w2) (X : Nat -> Prop) (h1 : X w.heap.size) (h2 : X (w.heap.size + 1)) (hX : ∀ b, X b -> b < w2.heap.size) : RtAt w2 X (w.heap.size + 1) w.heap.size room [] := by
 have hs : w'.heap.size = w.heap.size + 2 := by rw [hw]; simp
 have r1 : w'.heap[w.heap.size]? = some (.cells #[.pointer none] 139) := by rw [hw, Below.heap_alloc _ _ _ (by simp)]; exact heap_alloc_new w _
 have r2 : w'.heap[w.heap.size + 1]? = some (.cells #[.int .i64 (room : Int), .pointer (some ⟨w.heap.size, 0, none⟩)] 96) := by
  have := heap_alloc_new (w.alloc (.cells #[.pointer none] 139)) (.cells #[.int .i64 (room : Int), .pointer (some ⟨w.heap.size, 0, none⟩)] 96)
  rw [World.size_alloc] at this
  rw [hw]; exact this
 exact ⟨below_keeps hb r2 (by omega), ⟨.nil, ⟨h1, hX, ⟨.nil, below_keeps hb r1 (by omega), rfl, trivial⟩, trivial⟩, Hld.nil⟩, ⟨Nat.zero_le _, hr.2⟩, h2, by omega⟩
end Go.Proofs.YtpdnnikkaojnkaaGreat.Rt
