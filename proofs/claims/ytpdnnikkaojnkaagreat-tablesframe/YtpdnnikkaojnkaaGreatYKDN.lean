import Derived.Test.YtpdnnikkaojnkaaGreatYKS
namespace Go.Proofs.YtpdnnikkaojnkaaGreat.Rt
open Go.Proofs.YtpdnnikkaojnkaaGreat Go.ChangeShapes Go.WideShapes Go.ChangeAt Go.RowKit Go.Maps Tri N
set_option maxHeartbeats 4000000
set_option maxRecDepth 100000
theorem turned_chg {w w' : World} {bm : Nat} (h : w.mapTurned w' bm) : Chg (fun k => k = bm) w w' := ⟨h.grown.os, h.grown.tape, h.grown.output, h.grown.size, fun k hk hn => h.grown.block k hk fun e => hn (by cases e; rfl)⟩
theorem Chg.below' {X : Nat -> Prop} {w0 w w' : World} {B : Nat} (h : Chg X w w') (hb : Below B w0 w) (hB : B <= w.heap.size) (hX : ∀ j, X j -> B <= j) : Below B w0 w' := ⟨h.os.trans hb.os, h.tape.trans hb.tape, h.output.trans hb.output, Nat.le_trans hb.size h.size, fun j hj => (h.block j (by omega) (fun hx => by have := hX j hx; omega)).trans (hb.block j hj)⟩
theorem wpList_update_run {P : Program} (w : World) {ops : Array Oper} {rest : List Oper} {o : Oper} {a : Act} {Q : Exit -> Act -> World -> Prop} (hgd : o.guard = none) (t : TypeId) (x y z : Operand) (ho : o.op = .mapUpdate t x y z) (vx vy vz : Value) (hx : a.eval x = vx) (hy : a.eval y = vy) (hz : a.eval z = vz) {w' : World}
  (hr : (Instr.mapUpdate t vx vy vz).run P w = .ok () w') (h : wpList P ops Q rest (a.put o.dst undef) w') : wpList P ops Q (o :: rest) a w :=
 wpList_plain hgd fun _ hK => by
  unfold Oper.wp
  simp [execOp, ho, hx, hy, hz, hr, Result.andThen]
  exact hK _ _ h
theorem wpList_lookup_run {P : Program} (w : World) {ops : Array Oper} {rest : List Oper} {o : Oper} {a : Act} {Q : Exit -> Act -> World -> Prop} (hgd : o.guard = none) (t : TypeId) (x y : Operand) (c : Bool) (ho : o.op = .lookup t x y c) (vx vy v : Value) (hx : a.eval x = vx) (hy : a.eval y = vy)
  (hr : (Instr.lookup t vx vy c).run P w = .ok v w) (h : wpList P ops Q rest (a.put o.dst v) w) : wpList P ops Q (o :: rest) a w :=
 wpList_plain hgd fun _ hK => by
  unfold Oper.wp
  simp only [execOp, ho, hx, hy, hr, Sem.run_bind, Result.andThen_ok, Sem.run_pure]
  exact hK _ _ h
theorem wpList_len_run {P : Program} (w : World) {ops : Array Oper} {rest : List Oper} {o : Oper} {a : Act} {Q : Exit -> Act -> World -> Prop} (hgd : o.guard = none) (m : Operand) (t : TypeId) (ho : o.op = .call { callee := .builtin .len, args := #[m], argTypes := #[t] }) (vm : Value) (hm : a.eval m = vm) {v : Value}
  (hr : (Builtin.len_ #[t] o.type #[vm]).run P w = .ok v w) (h : wpList P ops Q rest (a.put o.dst v) w) : wpList P ops Q (o :: rest) a w :=
 wpList_plain hgd fun _ hK => by
  unfold Oper.wp
  simp [execOp, ho, resolve, invoke, builtin, hm, hr, Result.andThen]
  exact hK _ _ h
theorem MapG.clear {κ ε : Type} {G : Sg κ ε} {w : World} {bm c : Nat} {f : κ -> Option ε} (h : MapG G w bm f c) (ty : TypeId) :
  ∃ w', (Builtin.clear_ #[G.mT] ty #[.map (some bm)]).run Tryz.prog w = .ok (.tuple #[]) w' /\ MapG G w' bm (fun _ => none) 0 /\ Chg (fun b => b = bm) w w' := by
 obtain ⟨D, ⟨es, clock, h0, F, hs, hD⟩, h2, h3, h4⟩ := h
 have hlt := (gsl h0)
 refine ⟨w.putObj bm (.map #[] clock), ?_, ⟨.map [], ⟨#[], clock, World.putObj_heap_same hlt, ⟨by simp, MapKept.stamped_empty clock, by simp⟩, nL, rfl⟩, rfl, fun _ _ => ⟨rfl, rfl⟩, fun kl h => by cases h⟩, ⟨rfl, rfl, rfl, by simp, fun j hj hn => World.putObj_heap_other hn⟩⟩
 simp [Builtin.clear_, run_underlying G.um, MapKept.run_getObj_map h0, MapKept.run_setObj_map _ h0, Result.andThen]
 rfl
theorem wpList_delete_run {P : Program} (w : World) {ops : Array Oper} {rest : List Oper} {o : Oper} {a : Act} {Q : Exit -> Act -> World -> Prop} (hgd : o.guard = none) (d s : Operand) (t t' : TypeId)
  (ho : o.op = .call { callee := .builtin .delete, args := #[d, s], argTypes := #[t, t'] }) (v u : Value) (hd : a.eval d = v) (hs : a.eval s = u) {v' : Value} {w' : World}
  (hr : (Builtin.delete_ #[t, t'] o.type #[v, u]).run P w = .ok v' w') (h : wpList P ops Q rest (a.put o.dst v') w') : wpList P ops Q (o :: rest) a w :=
 wpList_plain hgd fun _ hK => by
  unfold Oper.wp execOp
  simp only [ho, resolve, invoke, builtin, Sem.run_bind, Sem.run_pure, Result.andThen_ok, List.map_toArray, List.map_cons, List.map_nil, hd, hs, hr]
  exact hK _ _ h
theorem fld_bN {b : Nat} (u : World) : (Instr.fieldAt 120 (.pointer (some ⟨b, 0, none⟩)) 0).run Tryz.prog u = .ok (.pointer (some ⟨b, 0, none⟩)) u /\ (Instr.fieldAt 120 (.pointer (some ⟨b, 0, none⟩)) 1).run Tryz.prog u = .ok (.pointer (some ⟨b, 1, none⟩)) u /\ (Instr.fieldAt 120 (.pointer (some ⟨b, 0, none⟩)) 2).run Tryz.prog u = .ok (.pointer (some ⟨b, 2, none⟩)) u /\ (Instr.fieldAt 120 (.pointer (some ⟨b, 0, none⟩)) 3).run Tryz.prog u = .ok (.pointer (some ⟨b, 3, none⟩)) u := by
 refine ⟨?_, ?_, ?_, ?_⟩ <;> kernel_rfl
theorem fld_eN {b o : Nat} (u : World) : (Instr.fieldAt 42 (.pointer (some ⟨b, o, none⟩)) 0).run Tryz.prog u = .ok (.pointer (some ⟨b, o, none⟩)) u /\ (Instr.fieldAt 42 (.pointer (some ⟨b, o, none⟩)) 1).run Tryz.prog u = .ok (.pointer (some ⟨b, o + 1, none⟩)) u := by
 refine ⟨?_, ?_⟩ <;> kernel_rfl
theorem load_mpN {u : World} {p : Addr} {x : Option Nat} (h : u.cell? p = some (.map x)) : (Instr.loadAt 118 (.pointer (some p))).run Tryz.prog u = .ok (.map x) u := by
 simp [go_sem, h]
structure BdN (w : World) (nb bm room : Nat) (L : List Nb) : Prop where
 row : w.heap[nb]? = some (.cells #[.int .i64 (room : Int), .map (some bm), .func (.func 36) #[] #[], .func (.func 38) #[] #[]] 120)
 map : MapG gN w bm (lk Nb.ip L) L.length
 nod : Nod Nb.ip L
 le : L.length <= room /\ room <= 256
 ne : nb ≠ bm
theorem BdN.lt {w : World} {nb bm room : Nat} {L : List Nb} (h : BdN w nb bm room L) : nb < w.heap.size /\ bm < w.heap.size := ⟨(gsl h.row), h.map.lt⟩
theorem BdN.kept {w w' : World} {nb bm room : Nat} {L : List Nb} (h : BdN w nb bm room L) (h1 : w'.heap[nb]? = w.heap[nb]?) (h2 : w'.heap[bm]? = w.heap[bm]?) : BdN w' nb bm room L := ⟨h1.trans h.row, h.map.kept h2, h.nod, h.le, h.ne⟩
theorem BdN.below {w w' : World} {nb bm room : Nat} {L : List Nb} (h : BdN w nb bm room L) (hb : Below w.heap.size w w') : BdN w' nb bm room L := h.kept (hb.block _ h.lt.1) (hb.block _ h.lt.2)
theorem BdN.cells {w : World} {nb bm room : Nat} {L : List Nb} (h : BdN w nb bm room L) : w.cell? ⟨nb, 0, none⟩ = some (.int .i64 (room : Int)) /\ w.cell? ⟨nb, 1, none⟩ = some (.map (some bm)) /\ w.cell? ⟨nb, 2, none⟩ = some (.func (.func 36) #[] #[]) /\ w.cell? ⟨nb, 3, none⟩ = some (.func (.func 38) #[] #[]) := by
 refine ⟨?_, ?_, ?_, ?_⟩ <;> rw [cell_of_row _ _ _ _ _ _ h.row] <;> rfl
theorem partN_any (o : Opv) (w : World) : Calls Tryz.prog 36 #[.agg o.cells] w fun e w' => e = .returned (.tuple #[.int .u32 (o.n.ip : Int), .agg o.n.cells]) /\ Below w.heap.size w w' := by
 obtain ⟨w1, hw1⟩ : ∃ w1, w1 = w.alloc (.cells o.cells 46) := ⟨_, rfl⟩
 have hop : OpB w1 w.heap.size o := by unfold OpB; rw [hw1]; exact heap_alloc_new w _
 have hs1 : w1.heap.size = w.heap.size + 1 := by rw [hw1]; simp
 obtain ⟨w2, hw2⟩ : ∃ w2, w2 = (w1).alloc (.cells #[.int .u32 0, .int .u8 0, .int .u8 0, .int .u8 0, .int .u8 0, .int .u8 0, .int .u8 0] 42) := ⟨_, rfl⟩
 have b12 : Below w1.heap.size w1 w2 := by rw [hw2]; exact bR.alloc nL _
 have b02 : Below w.heap.size w w2 := (show Below w.heap.size w w1 by rw [hw1]; exact bR.alloc nL _).trans (b12.mono (by omega))
 have HOP := hid (hop.below b12)
 have HW2 : Hid (w2 = (w.alloc (.cells o.cells 46)).alloc (.cells #[.int .u32 0, .int .u8 0, .int .u8 0, .int .u8 0, .int .u8 0, .int .u8 0, .int .u8 0] 42)) := by unfold Hid; rw [hw2, hw1]
 have re : w2.heap[w.heap.size + 1]? = some (.cells #[.int .u32 0, .int .u8 0, .int .u8 0, .int .u8 0, .int .u8 0, .int .u8 0, .int .u8 0] 42) := by rw [hw2, <- hs1]; exact heap_alloc_new w1 _
 have HRE := hid re
 have HB2 := hid b02
 have HS2 : Hid (w2.heap.size = w.heap.size + 2) := by unfold Hid; rw [hw2]; simp; omega
 have HI0 : Hid (IT w2 w2.heap.size [⟨6, true, w.heap.size + 1, o.n.cells, 42⟩] w2) := ⟨Chg.refl _ _, fun q hq _ => by
   simp at hq
   subst hq
   exact ⟨#[.int .u32 0, .int .u8 0, .int .u8 0, .int .u8 0, .int .u8 0, .int .u8 0, .int .u8 0], rfl, HRE.out⟩⟩
 clear hw1 hw2 hop hs1 b12 b02 re
 go_enter Tryz.func36, Tryz.ntmps36
 go_upto_region 1 with fail
 rw [<- HW2.out]
 refine wp_region_all' 7 (fun i => ([some 4, some 5, some 6, some 7, some 8, some 2, none] : List (Option Tmp)).getD i none) (FT [.inl (.pointer (some ⟨w.heap.size, 5, none⟩)), .inl (.pointer (some ⟨w.heap.size, 5, none⟩)), .inl (.int .u32 (o.n.ip : Int)), .inl (.pointer (some ⟨w.heap.size, 5, none⟩)), .inl (.agg o.n.cells), .inl (.int .u32 (o.n.ip : Int)), .inl (undef)] (w2.heap.size) [⟨6, true, w.heap.size + 1, o.n.cells, 42⟩]) (IT w2 (w2.heap.size) [⟨6, true, w.heap.size + 1, o.n.cells, 42⟩]) (RT [⟨6, true, w.heap.size + 1, o.n.cells, 42⟩]) (by kernel_rfl) (by kernel_rfl) (it_start (HI0.out.2)) (FT.keeps _ _ _ _ _ (by kernel_rfl)) ?_ ?_
 ·simp only [N.stepsAll]
  refine ⟨?_, ?_, ?_, ?_, ?_, ?_, ?_, trivial⟩
  ·intro a u vs hI hold hdep
   exact ft_still (ex_field _ ⟨w.heap.size, 0, none⟩ (.tmp 1) 2 _ rfl (hold 1 (dl_of (L := [some 4, some 5, some 6, some 7, some 8, some 2, none]) (by decide))) ((fld_op u).2.2.1)) rfl rfl rfl hI
  ·intro a u vs hI hold hdep
   have d0 := hdep ⟨0, .data⟩ (by simp) rfl
   exact ft_still (ex_field _ ⟨w.heap.size, 5, none⟩ (.tmp 4) 0 _ rfl (ft_dep d0.1 (d0.2 4 rfl) rfl) ((fld_eN u).1)) rfl rfl rfl hI
  ·intro a u vs hI hold hdep
   have d1 := hdep ⟨1, .data⟩ (by simp) rfl
   exact ft_still (ex_load _ ⟨w.heap.size, 5, none⟩ (.tmp 5) _ rfl (ft_dep d1.1 (d1.2 5 rfl) rfl) (load_ad (by rw [cell_of_row _ _ _ _ _ _ (hI.kind HOP.out (by rw [HS2.out]; omega) HI0.out rfl)]; rfl))) rfl rfl rfl hI
  ·intro a u vs hI hold hdep
   exact ft_still (ex_field _ ⟨w.heap.size, 0, none⟩ (.tmp 1) 2 _ rfl (hold 1 (dl_of (L := [some 4, some 5, some 6, some 7, some 8, some 2, none]) (by decide))) ((fld_op u).2.2.1)) rfl rfl rfl hI
  ·intro a u vs hI hold hdep
   have d3 := hdep ⟨3, .data⟩ (by simp) rfl
   exact ft_still (ex_load _ ⟨w.heap.size, 5, none⟩ (.tmp 7) _ rfl (ft_dep d3.1 (d3.2 7 rfl) rfl) (OpB.ngh (hI.kind HOP.out (by rw [HS2.out]; omega) HI0.out rfl))) rfl rfl rfl hI
  ·intro a u vs hI hold hdep
   have d2 := hdep ⟨2, .data⟩ (by simp) rfl
   exact ft_still (ex_assign (.tmp 6) _ rfl (ft_dep d2.1 (d2.2 6 rfl) rfl)) rfl rfl rfl hI
  ·intro a u vs hI hold hdep
   have d4 := hdep ⟨4, .data⟩ (by simp) rfl
   exact ft_old (g := w.heap.size + 1) (row := o.n.cells) (T := 42) rfl rfl (hold 3 (dl_of (L := [some 4, some 5, some 6, some 7, some 8, some 2, none]) (by decide))) (ft_dep d4.1 (d4.2 8 rfl) rfl) (by simp) (fun q hq e => by simp only [List.mem_cons, List.not_mem_nil, or_false] at hq; rcases hq with rfl <;> first | rfl | (exact absurd e (by simp))) (by kernel_rfl) (one_cells o.n) rfl (by kernel_rfl) hI
 intro vs u hI hF
 have e0 : vs 0 = .pointer (some ⟨w.heap.size, 5, none⟩) := (hF 0 (by decide)).is rfl
 have e1 : vs 1 = .pointer (some ⟨w.heap.size, 5, none⟩) := (hF 1 (by decide)).is rfl
 have e2 : vs 2 = .int .u32 (o.n.ip : Int) := (hF 2 (by decide)).is rfl
 have e3 : vs 3 = .pointer (some ⟨w.heap.size, 5, none⟩) := (hF 3 (by decide)).is rfl
 have e4 : vs 4 = .agg o.n.cells := (hF 4 (by decide)).is rfl
 have e5 : vs 5 = .int .u32 (o.n.ip : Int) := (hF 5 (by decide)).is rfl
 have e6 : vs 6 = undef := (hF 6 (by decide)).is rfl
 have st6 := (hF 6 (by decide)).stored (k := w.heap.size + 1) (row := o.n.cells) (T := 42) (by simp)
 have hch := hI.1
 clear hF
 simp only [putsO, List.range, List.range.loop, List.foldr, if_true, List.getD_cons_zero, List.getD_cons_succ, e0, e1, e2, e3, e4, e5, Act.put, List.setIfInBounds_toArray, List.set_cons_zero, List.set_cons_succ]
 clear e0 e1 e2 e3 e4 e5 e6
 clear hI
 have u0 : u.cell? ⟨w.heap.size + 1, 0, none⟩ = some (.int .u32 (o.n.ip : Int)) := crw st6 rfl
 have u1 : u.cell? ⟨w.heap.size + 1, 1, none⟩ = some (.int .u8 (o.n.mac.b0 : Int)) := crw st6 rfl
 have u2 : u.cell? ⟨w.heap.size + 1, 2, none⟩ = some (.int .u8 (o.n.mac.b1 : Int)) := crw st6 rfl
 have u3 : u.cell? ⟨w.heap.size + 1, 3, none⟩ = some (.int .u8 (o.n.mac.b2 : Int)) := crw st6 rfl
 have u4 : u.cell? ⟨w.heap.size + 1, 4, none⟩ = some (.int .u8 (o.n.mac.b3 : Int)) := crw st6 rfl
 have u5 : u.cell? ⟨w.heap.size + 1, 5, none⟩ = some (.int .u8 (o.n.mac.b4 : Int)) := crw st6 rfl
 have u6 : u.cell? ⟨w.heap.size + 1, 6, none⟩ = some (.int .u8 (o.n.mac.b5 : Int)) := crw st6 rfl
 have hbf : Below w.heap.size w u := hch.below' HB2.out HB2.out.size (fun j hj => by
  rcases hj with hj | ⟨q, hq, _, e⟩
  ·have := HB2.out.size; omega
  ·simp at hq
   subst hq <;> simp only at e <;> omega)
 go_wp2_with fail
 refine bodyPost_ret (v := .tuple #[.int .u32 (o.n.ip : Int), .agg o.n.cells]) (by simp [results, Tryz.results36, go_sem, u0, u1, u2, u3, u4, u5, u6, Nb.cells]) rfl ⟨rfl, hbf⟩
theorem countN_any {nb bm room : Nat} {L : List Nb} (w : World) (h : BdN w nb bm room L) : Calls Tryz.prog 155 #[.pointer (some ⟨nb, 0, none⟩)] w fun e w' => e = .returned (.int .i64 (L.length : Int)) /\ w' = w := by
 obtain ⟨-, c1, -, -⟩ := h.cells
 have HLN := fun ty => hid (h.map.len ty)
 clear h
 go_enter Tryz.func155, Tryz.ntmps155
 go_wp2_with (first | (at_len; refine wpList_len_run _ rfl _ _ rfl _ rfl (HLN _).out ?_) | fail)
 go_ret
 exact ⟨rfl, rfl⟩
theorem admitN_any {nb bm room : Nat} {L : List Nb} (w : World) (b : Bool) (h : BdN w nb bm room L) : Calls Tryz.prog 147 #[.iface 66 (.pointer (some ⟨nb, 0, none⟩)), .int .i64 (room : Int), .bool b] w fun e w' => e = .returned (.int .i64 (if b then 0 else if room <= L.length then 4 else 0)) /\ w' = w := by
 have HC := hid (countN_any w h)
 have hm : ∀ u : World, (method 334 66 (.pointer (some ⟨nb, 0, none⟩)) "weft/tables.count").run Tryz.prog u = .ok (155, .pointer (some ⟨nb, 0, none⟩)) u := fun u => by kernel_rfl
 obtain ⟨n, hn⟩ : ∃ n, n = L.length := ⟨_, rfl⟩
 rw [<- hn] at HC ⊢
 clear h hn
 cases b
 ·by_cases hl : room <= n
  ·have HE : Hid ((if false = true then (0 : Int) else if room <= n then 4 else 0) = 4) := by unfold Hid; simp [hl]
   have q1 : (room : Int) <= (n : Int) := by omega
   rw [HE.out]
   clear HE
   go_enter Tryz.func147, Tryz.ntmps147
   go_wp2_with fail
   refine HC.out.mono ?_
   rintro _ _ ⟨rfl, ew⟩
   obtain rfl := ew.symm
   go_wp2_with fail
   go_ret
   exact ⟨rfl, rfl⟩
  ·have HE : Hid ((if false = true then (0 : Int) else if room <= n then 4 else 0) = 0) := by unfold Hid; simp [hl]
   have q1 : ¬ (room : Int) <= (n : Int) := by omega
   rw [HE.out]
   clear HE
   go_enter Tryz.func147, Tryz.ntmps147
   go_wp2_with fail
   refine HC.out.mono ?_
   rintro _ _ ⟨rfl, ew⟩
   obtain rfl := ew.symm
   go_wp2_with fail
   go_ret
   exact ⟨rfl, rfl⟩
 ·go_enter Tryz.func147, Tryz.ntmps147
  go_wp2_with fail
  go_ret
  exact ⟨rfl, rfl⟩
def bEN (L : List Nb) (room : Nat) (k : Nat) : Int := if (lk Nb.ip L k).isSome then 0 else if room <= L.length then 4 else 0
theorem load_fnN {u : World} {p : Addr} {f : Fn} {a b : Array Value} (h : u.cell? p = some (.func f a b)) : (Instr.loadAt 97 (.pointer (some p))).run Tryz.prog u = .ok (.func f a b) u := by
 simp [go_sem, h]
def PtN (x : Int) (w' : World) (nb bm room : Nat) (L L' : List Nb) : Prop := (x = 0 -> BdN w' nb bm room L') /\ (x ≠ 0 -> BdN w' nb bm room L)
theorem putN_any {nb bm room : Nat} {L : List Nb} (w : World) (o : Opv) (h : BdN w nb bm room L) (ho : o.Ok) :
  Calls Tryz.prog 157 #[.pointer (some ⟨nb, 0, none⟩), .agg o.cells] w fun e w' => e = .returned (.int .i64 (bEN L room o.n.ip)) /\ PtN (bEN L room o.n.ip) w' nb bm room L (putK Nb.ip L o.n) /\ Chg (fun b => b = bm) w w' := by
 obtain ⟨x, HX⟩ : ∃ x, Hid (x = bEN L room o.n.ip) := ⟨_, rfl⟩
 rw [<- HX.out]
 obtain ⟨w1, hw1⟩ : ∃ w1, w1 = w.alloc (.cells o.cells 46) := ⟨_, rfl⟩
 have hs1 : w1.heap.size = w.heap.size + 1 := by rw [hw1]; simp
 have hb1 : Below w.heap.size w w1 := by rw [hw1]; exact bR.alloc nL _
 have hop : OpB w1 w.heap.size o := by unfold OpB; rw [hw1]; exact heap_alloc_new w _
 have h1 := h.below hb1
 have HW1 := hid hw1
 have HOP := hid hop
 have HB1 := hid hb1
 have HS1 := hid hs1
 have HBD := hid h1
 have HROW := hid h1.row
 have HLT := hid h.lt
 have HI0 : Hid (IT w1 w1.heap.size [⟨11, false, 9, o.n.cells, 42⟩] w1) := ⟨Chg.refl _ _, fun q hq e => by simp at hq; subst hq; cases e⟩
 have HOK := hid ho.ni
 clear hw1 hop hb1 h1 hs1 h ho
 go_enter Tryz.func157, Tryz.ntmps157
 go_upto_region 1 with fail
 rw [<- HW1.out]
 refine wp_region_all' 12 (fun i => ([some 11, some 12, some 13, some 14, some 15, some 16, some 10, some 17, some 18, some 6, some 5, none] : List (Option Tmp)).getD i none) (FT [.inl (.pointer (some ⟨nb, 0, none⟩)), .inl (.pointer (some ⟨nb, 0, none⟩)), .inl (.pointer (some ⟨nb, 2, none⟩)), .inl (.func (.func 36) #[] #[]), .inl (.agg o.cells), .inl (.tuple #[.int .u32 (o.n.ip : Int), .agg o.n.cells]), .inl (.tuple #[.int .u32 (o.n.ip : Int), .agg o.n.cells]), .inl (.int .u32 (o.n.ip : Int)), .inl (.agg o.n.cells), .inr (#[.int .u32 0, .int .u8 0, .int .u8 0, .int .u8 0, .int .u8 0, .int .u8 0, .int .u8 0], 42), .inl (.int .u32 (o.n.ip : Int)), .inl (undef)] (w1.heap.size) [⟨11, false, 9, o.n.cells, 42⟩]) (IT w1 (w1.heap.size) [⟨11, false, 9, o.n.cells, 42⟩]) (RT [⟨11, false, 9, o.n.cells, 42⟩]) (by kernel_rfl) (by kernel_rfl) (it_start (HI0.out.2)) (FT.keeps _ _ _ _ _ (by kernel_rfl)) ?_ ?_
 ·simp only [N.stepsAll]
  refine ⟨?_, ?_, ?_, ?_, ?_, ?_, ?_, ?_, ?_, ?_, ?_, ?_, trivial⟩
  ·intro a u vs hI hold hdep
   exact ft_still (ex_move (.tmp 0) _ rfl (hold 0 (dl_of (L := [some 11, some 12, some 13, some 14, some 15, some 16, some 10, some 17, some 18, some 6, some 5, none]) (by decide)))) rfl rfl rfl hI
  ·intro a u vs hI hold hdep
   have d0 := hdep ⟨0, .data⟩ (by simp) rfl
   exact ft_still (ex_nil ⟨nb, 0, none⟩ (.tmp 11) rfl (ft_dep d0.1 (d0.2 11 rfl) rfl)) rfl rfl rfl hI
  ·intro a u vs hI hold hdep
   have d1 := hdep ⟨1, .data⟩ (by simp) rfl
   exact ft_still (ex_field _ ⟨nb, 0, none⟩ (.tmp 12) 2 _ rfl (ft_dep d1.1 (d1.2 12 rfl) rfl) ((fld_bN u).2.2.1)) rfl rfl rfl hI
  ·intro a u vs hI hold hdep
   have d2 := hdep ⟨2, .data⟩ (by simp) rfl
   exact ft_still (ex_load _ ⟨nb, 2, none⟩ (.tmp 13) _ rfl (ft_dep d2.1 (d2.2 13 rfl) rfl) (load_fnN (by rw [cell_of_row _ _ _ _ _ _ (hI.kind HROW.out (by rw [HS1.out]; have := HLT.out; omega) HI0.out rfl)]; rfl))) rfl rfl rfl hI
  ·intro a u vs hI hold hdep
   exact ft_still (ex_load _ ⟨w.heap.size, 0, none⟩ (.tmp 3) _ rfl (hold 3 (dl_of (L := [some 11, some 12, some 13, some 14, some 15, some 16, some 10, some 17, some 18, some 6, some 5, none]) (by decide))) (OpB.load (hI.kind HOP.out (by rw [HS1.out]; omega) HI0.out rfl))) rfl rfl rfl hI
  ·intro a u vs hI hold hdep
   have d3 := hdep ⟨3, .data⟩ (by simp) rfl
   have d4 := hdep ⟨4, .data⟩ (by simp) rfl
   have ef : a.eval (.tmp 14) = .func (.func 36) #[] #[] := (ft_dep d3.1 (d3.2 14 rfl) rfl)
   have e0 : a.eval (.tmp 15) = .agg o.cells := (ft_dep d4.1 (d4.2 15 rfl) rfl)
   refine wp_callV 36 (.tmp 14) _ _ rfl ef (enters_of Tryz.func36 (by kernel_rfl) rfl) #[.agg o.cells] (by simp only [List.map_toArray, List.map_cons, List.map_nil, e0]) ?_
   exact ft_ret rfl rfl rfl hI (partN_any o u)
  ·intro a u vs hI hold hdep
   have d5 := hdep ⟨5, .data⟩ (by simp) rfl
   exact ft_still (ex_move (.tmp 16) _ rfl (ft_dep d5.1 (d5.2 16 rfl) rfl)) rfl rfl rfl hI
  ·intro a u vs hI hold hdep
   have d6 := hdep ⟨6, .data⟩ (by simp) rfl
   exact ft_still (ex_extract (.tmp 10) 0 _ _ rfl (ft_dep d6.1 (d6.2 10 rfl) rfl) rfl) rfl rfl rfl hI
  ·intro a u vs hI hold hdep
   have d6 := hdep ⟨6, .data⟩ (by simp) rfl
   exact ft_still (ex_extract (.tmp 10) 1 _ _ rfl (ft_dep d6.1 (d6.2 10 rfl) rfl) rfl) rfl rfl rfl hI
  ·intro a u vs hI hold hdep
   exact ft_alloc (ex_alloc u rfl (fun u => by kernel_rfl)) rfl rfl rfl hI nL
  ·intro a u vs hI hold hdep
   have d7 := hdep ⟨7, .data⟩ (by simp) rfl
   exact ft_still (ex_assign (.tmp 17) _ rfl (ft_dep d7.1 (d7.2 17 rfl) rfl)) rfl rfl rfl hI
  ·intro a u vs hI hold hdep
   have d8 := hdep ⟨8, .data⟩ (by simp) rfl
   have dn := hdep ⟨9, .data⟩ (by simp) rfl
   obtain ⟨b, old, hx, hvk, hBg, hs, hg⟩ := ft_depN dn.1 (dn.2 6 rfl) rfl
   exact ft_new (k := 9) (row := o.n.cells) (T := 42) rfl rfl (by decide) hx hvk hBg hs hg (ft_dep d8.1 (d8.2 18 rfl) rfl) (by simp) (fun q hq e => by simp only [List.mem_cons, List.not_mem_nil, or_false] at hq; rcases hq with rfl <;> first | rfl | (exact absurd e (by simp))) (by kernel_rfl) (one_cells o.n) rfl (by kernel_rfl) hI
 intro vs u hI hF
 have e0 : vs 0 = .pointer (some ⟨nb, 0, none⟩) := (hF 0 (by decide)).is rfl
 have e1 : vs 1 = .pointer (some ⟨nb, 0, none⟩) := (hF 1 (by decide)).is rfl
 have e2 : vs 2 = .pointer (some ⟨nb, 2, none⟩) := (hF 2 (by decide)).is rfl
 have e3 : vs 3 = .func (.func 36) #[] #[] := (hF 3 (by decide)).is rfl
 have e4 : vs 4 = .agg o.cells := (hF 4 (by decide)).is rfl
 have e5 : vs 5 = .tuple #[.int .u32 (o.n.ip : Int), .agg o.n.cells] := (hF 5 (by decide)).is rfl
 have e6 : vs 6 = .tuple #[.int .u32 (o.n.ip : Int), .agg o.n.cells] := (hF 6 (by decide)).is rfl
 have e7 : vs 7 = .int .u32 (o.n.ip : Int) := (hF 7 (by decide)).is rfl
 have e8 : vs 8 = .agg o.n.cells := (hF 8 (by decide)).is rfl
 obtain ⟨b9, e9, hb9⟩ := (hF 9 (by decide)).newB rfl
 have e10 : vs 10 = .int .u32 (o.n.ip : Int) := (hF 10 (by decide)).is rfl
 have e11 : vs 11 = undef := (hF 11 (by decide)).is rfl
 obtain ⟨bb11, f11, st11⟩ := (hF 11 (by decide)).storedN (k := 9) (row := o.n.cells) (T := 42) (by simp)
 obtain rfl : b9 = bb11 := by rw [e9] at f11; simpa using f11
 clear f11
 have hch := hI.1
 clear hF
 simp only [putsO, List.range, List.range.loop, List.foldr, if_true, List.getD_cons_zero, List.getD_cons_succ, e0, e1, e2, e3, e4, e5, e6, e7, e8, e9, e10, Act.put, List.setIfInBounds_toArray, List.set_cons_zero, List.set_cons_succ]
 clear e0 e1 e2 e3 e4 e5 e6 e7 e8 e9 e10 e11
 have hb : Below w1.heap.size w1 u := hch.below' bR nL (fun j hj => by
  rcases hj with hj | ⟨q, hq, e, _⟩
  ·exact hj
  ·simp at hq
   subst hq; cases e)
 have HU : Hid (Below w.heap.size w u) := HB1.out.trans (hb.mono (by have := HS1.out; omega))
 have HBU := hid (HBD.out.below hb)
 have HEB := hid st11
 clear hI hch hb st11
 obtain ⟨-, c1, -, -⟩ := HBU.out.cells
 obtain ⟨ee, hee⟩ : ∃ ee, ee = (lk Nb.ip L o.n.ip).getD gN.z := ⟨_, rfl⟩
 have HLK := HBU.out.map.look HOK.out
 rw [<- hee] at HLK
 have HLK' : Hid ((Instr.lookup 118 (.map (some bm)) (.int .u32 (o.n.ip : Int)) true).run Tryz.prog u = .ok (.tuple #[.agg #[.int .u32 (ee.ip : Int), .int .u8 (ee.mac.b0 : Int), .int .u8 (ee.mac.b1 : Int), .int .u8 (ee.mac.b2 : Int), .int .u8 (ee.mac.b3 : Int), .int .u8 (ee.mac.b4 : Int), .int .u8 (ee.mac.b5 : Int)], .bool (lk Nb.ip L o.n.ip).isSome]) u) := HLK
 obtain ⟨bs, HBS⟩ : ∃ bs, Hid (bs = (lk Nb.ip L o.n.ip).isSome) := ⟨_, rfl⟩
 rw [<- HBS.out] at HLK'
 clear hee HLK
 obtain ⟨u2, hu2⟩ : ∃ u2, u2 = u.alloc (.cells #[.int .u32 (ee.ip : Int), .int .u8 (ee.mac.b0 : Int), .int .u8 (ee.mac.b1 : Int), .int .u8 (ee.mac.b2 : Int), .int .u8 (ee.mac.b3 : Int), .int .u8 (ee.mac.b4 : Int), .int .u8 (ee.mac.b5 : Int)] 42) := ⟨_, rfl⟩
 have hbu2 : Below u.heap.size u u2 := by rw [hu2]; exact bR.alloc nL _
 have HU2 := hid hu2
 have HBU2 := hid (HBU.out.below hbu2)
 have HB02 : Hid (Below w.heap.size w u2) := HU.out.trans (hbu2.mono HU.out.size)
 have HE2 : Hid (u2.heap[b9]? = some (.cells o.n.cells 42)) := below_keeps hbu2 HEB.out (gsl HEB.out)
 have HAD := hid (admitN_any u2 bs HBU2.out)
 obtain ⟨d0, d1, -, -⟩ := HBU2.out.cells
 clear hu2 hbu2
 go_upto_region 3 with (first | (at_lookup; refine wpList_lookup_run _ rfl _ _ _ _ rfl _ _ _ rfl rfl HLK'.out ?_) | fail)
 rw [<- HU2.out]
 have HAX : Hid ((if bs = true then (0 : Int) else if room <= L.length then 4 else 0) = x) := by unfold Hid; rw [HX.out, HBS.out]; rfl
 rw [HAX.out] at HAD
 clear HAX
 go_wp2_with fail
 refine HAD.out.mono ?_
 rintro _ _ ⟨rfl, ew⟩
 obtain rfl := ew.symm
 by_cases hx : x = 0
 ·have HMU2 := hid HBU2.out.map
  have HRU2 := hid HBU2.out.row
  have HLU2 := hid HBU2.out.lt
  have HLE : Hid (L.length < 1000000) := by have := HBU2.out.le; unfold Hid; omega
  have HPL : Hid ((lk Nb.ip L o.n.ip).isSome = true \/ L.length < room) := by
   have := HX.out
   rw [hx] at this
   unfold bEN at this
   unfold Hid
   cases hq : (lk Nb.ip L o.n.ip).isSome with
   | true => exact .inl rfl
   | false =>
    rw [hq] at this
    right
    by_cases hl : room <= L.length
    ·simp [hl] at this
    ·omega
  subst hx
  clear HAD HX HBU d0 d1 c1
  go_upto_region 6 with fail
  refine wp_region_mono' 6 (fun i => ([39, 40, 41, 42, 43, 44] : List Tmp).getD i 0) (FA [.inl (.pointer (some ⟨nb, 0, none⟩)), .inl (.pointer (some ⟨nb, 0, none⟩)), .inl (.pointer (some ⟨nb, 1, none⟩)), .inl (.map (some bm)), .inl (.int .u32 (o.n.ip : Int)), .inl (.agg o.n.cells)] 0) (by kernel_rfl) (by kernel_rfl) (FA.keeps _ _) ?_ ?_
  ·simp only [List.take_succ_cons, List.take_zero, stepsOk]
   refine ⟨?_, ?_, ?_, ?_, ?_, ?_, trivial⟩
   ·intro a u_ vs hb hold hdep
    exact fa_still (ex_move (.tmp 0) _ rfl (hold 0 (dlM (L := [39, 40, 41, 42, 43, 44]) (by decide)))) rfl rfl hb
   ·intro a u_ vs hb hold hdep
    exact fa_still (ex_nil ⟨nb, 0, none⟩ (.tmp 39) rfl (FA.dep (hdep ⟨0, .data⟩ (by simp) rfl (by decide)) rfl)) rfl rfl hb
   ·intro a u_ vs hb hold hdep
    exact fa_still (ex_field _ ⟨nb, 0, none⟩ (.tmp 40) 1 _ rfl (FA.dep (hdep ⟨1, .data⟩ (by simp) rfl (by decide)) rfl) ((fld_bN u_).2.1)) rfl rfl hb
   ·intro a u_ vs hb hold hdep
    exact fa_still (ex_load _ ⟨nb, 1, none⟩ (.tmp 41) _ rfl (FA.dep (hdep ⟨2, .data⟩ (by simp) rfl (by decide)) rfl) (load_mpN (by rw [cell_of_row _ _ _ _ _ _ (below_keeps hb HRU2.out HLU2.out.1)]; rfl))) rfl rfl hb
   ·intro a u_ vs hb hold hdep
    exact fa_still (ex_move (.tmp 5) _ rfl (hold 5 (dlM (L := [39, 40, 41, 42, 43, 44]) (by decide)))) rfl rfl hb
   ·intro a u_ vs hb hold hdep
    exact fa_still (ex_load _ ⟨b9, 0, none⟩ (.tmp 6) _ rfl (hold 6 (dlM (L := [39, 40, 41, 42, 43, 44]) (by decide))) (load_at (cs := o.n.cells.toList) (below_keeps hb HE2.out (gsl HE2.out)) rfl Tryz.underlying42 rfl (by kernel_rfl))) rfl rfl hb
  intro vs u3 hb hF
  have e0 : vs 0 = .pointer (some ⟨nb, 0, none⟩) := (hF 0 (by decide)).is rfl
  have e1 : vs 1 = .pointer (some ⟨nb, 0, none⟩) := (hF 1 (by decide)).is rfl
  have e2 : vs 2 = .pointer (some ⟨nb, 1, none⟩) := (hF 2 (by decide)).is rfl
  have e3 : vs 3 = .map (some bm) := (hF 3 (by decide)).is rfl
  have e4 : vs 4 = .int .u32 (o.n.ip : Int) := (hF 4 (by decide)).is rfl
  have e5 : vs 5 = .agg o.n.cells := (hF 5 (by decide)).is rfl
  clear hF
  simp only [List.drop_succ_cons, List.drop_zero, puts, List.range, List.range.loop, List.foldr, if_true, List.getD_cons_zero, List.getD_cons_succ, e0, e1, e2, e3, e4, e5, Act.put, List.setIfInBounds_toArray, List.set_cons_zero, List.set_cons_succ]
  clear e0 e1 e2 e3 e4 e5
  obtain ⟨w', hr, hm', ht'⟩ := (HMU2.out.kept (hb.block _ HLU2.out.2)).store HLE.out (k := o.n.ip) HOK.out o.n
  have HR := hid hr
  have hch : Chg (fun b => b = bm) w w' := ((Chg.of_below HB02.out).trans (Chg.of_below hb)).trans (turned_chg ht')
  have HFIN : Hid (BdN w' nb bm room (putK Nb.ip L o.n)) := by
   have hrow : w'.heap[nb]? = _ := ((turned_chg ht').block nb (Nat.lt_of_lt_of_le HLU2.out.1 hb.size) HBU2.out.ne).trans ((hb.block _ HLU2.out.1).trans HRU2.out)
   refine ⟨hrow, hm'.congr (len_put _).symm (fun y => (lk_put HBU2.out.nod _ _).symm), HBU2.out.nod.put _, ⟨?_, HBU2.out.le.2⟩, HBU2.out.ne⟩
   rw [len_put]
   have := HBU2.out.le.1
   rcases HPL.out with h1 | h1
   ·rw [h1]; simpa using this
   ·split <;> omega
  have HCH := hid hch
  clear hb hr hm' ht' hch
  refine wpList_update_run _ rfl _ _ _ _ rfl _ _ _ rfl rfl rfl HR.out ?_
  go_wp2_with fail
  go_ret
  exact ⟨rfl, ⟨fun _ => HFIN.out, fun h => absurd rfl h⟩, HCH.out⟩
 ·have q : (x == 0) = false := by simpa using hx
  have HN := hid hx
  clear hx HX
  go_wp2_with fail
  go_ret
  exact ⟨rfl, ⟨fun h => absurd h HN.out, fun _ => HBU2.out⟩, Chg.of_below HB02.out⟩
end Go.Proofs.YtpdnnikkaojnkaaGreat.Rt
