import Derived.Test.YtpdnnikkaojnkaaGreatYKDN
namespace Go.Proofs.YtpdnnikkaojnkaaGreat.Rt
open Go.Proofs.YtpdnnikkaojnkaaGreat Go.ChangeShapes Go.WideShapes Go.ChangeAt Go.RowKit Go.Maps Tri N
set_option maxHeartbeats 4000000
set_option maxRecDepth 100000
theorem fld_bF {b : Nat} (u : World) : (Instr.fieldAt 128 (.pointer (some ⟨b, 0, none⟩)) 0).run Tryz.prog u = .ok (.pointer (some ⟨b, 0, none⟩)) u /\ (Instr.fieldAt 128 (.pointer (some ⟨b, 0, none⟩)) 1).run Tryz.prog u = .ok (.pointer (some ⟨b, 1, none⟩)) u /\ (Instr.fieldAt 128 (.pointer (some ⟨b, 0, none⟩)) 2).run Tryz.prog u = .ok (.pointer (some ⟨b, 2, none⟩)) u /\ (Instr.fieldAt 128 (.pointer (some ⟨b, 0, none⟩)) 3).run Tryz.prog u = .ok (.pointer (some ⟨b, 3, none⟩)) u := by
 refine ⟨?_, ?_, ?_, ?_⟩ <;> kernel_rfl
theorem fld_eF {b o : Nat} (u : World) : (Instr.fieldAt 44 (.pointer (some ⟨b, o, none⟩)) 0).run Tryz.prog u = .ok (.pointer (some ⟨b, o, none⟩)) u /\ (Instr.fieldAt 44 (.pointer (some ⟨b, o, none⟩)) 1).run Tryz.prog u = .ok (.pointer (some ⟨b, o + 6, none⟩)) u := by
 refine ⟨?_, ?_⟩ <;> kernel_rfl
theorem load_mpF {u : World} {p : Addr} {x : Option Nat} (h : u.cell? p = some (.map x)) : (Instr.loadAt 126 (.pointer (some p))).run Tryz.prog u = .ok (.map x) u := by
 simp [go_sem, h]
structure BdF (w : World) (nb bm room : Nat) (L : List Fd) : Prop where
 row : w.heap[nb]? = some (.cells #[.int .i64 (room : Int), .map (some bm), .func (.func 39) #[] #[], .func (.func 40) #[] #[]] 128)
 map : MapG gF w bm (lk Fd.mac L) L.length
 nod : Nod Fd.mac L
 le : L.length <= room /\ room <= 256
 ne : nb ≠ bm
theorem BdF.lt {w : World} {nb bm room : Nat} {L : List Fd} (h : BdF w nb bm room L) : nb < w.heap.size /\ bm < w.heap.size := ⟨(gsl h.row), h.map.lt⟩
theorem BdF.kept {w w' : World} {nb bm room : Nat} {L : List Fd} (h : BdF w nb bm room L) (h1 : w'.heap[nb]? = w.heap[nb]?) (h2 : w'.heap[bm]? = w.heap[bm]?) : BdF w' nb bm room L := ⟨h1.trans h.row, h.map.kept h2, h.nod, h.le, h.ne⟩
theorem BdF.below {w w' : World} {nb bm room : Nat} {L : List Fd} (h : BdF w nb bm room L) (hb : Below w.heap.size w w') : BdF w' nb bm room L := h.kept (hb.block _ h.lt.1) (hb.block _ h.lt.2)
theorem BdF.cells {w : World} {nb bm room : Nat} {L : List Fd} (h : BdF w nb bm room L) : w.cell? ⟨nb, 0, none⟩ = some (.int .i64 (room : Int)) /\ w.cell? ⟨nb, 1, none⟩ = some (.map (some bm)) /\ w.cell? ⟨nb, 2, none⟩ = some (.func (.func 39) #[] #[]) /\ w.cell? ⟨nb, 3, none⟩ = some (.func (.func 40) #[] #[]) := by
 refine ⟨?_, ?_, ?_, ?_⟩ <;> rw [cell_of_row _ _ _ _ _ _ h.row] <;> rfl
theorem partF_any (o : Opv) (w : World) : Calls Tryz.prog 39 #[.agg o.cells] w fun e w' => e = .returned (.tuple #[o.f.mac.v, .agg o.f.cells]) /\ Below w.heap.size w w' := by
 obtain ⟨w1, hw1⟩ : ∃ w1, w1 = w.alloc (.cells o.cells 46) := ⟨_, rfl⟩
 have hop : OpB w1 w.heap.size o := by unfold OpB; rw [hw1]; exact heap_alloc_new w _
 have hs1 : w1.heap.size = w.heap.size + 1 := by rw [hw1]; simp
 obtain ⟨w2, hw2⟩ : ∃ w2, w2 = ((w1.alloc (.cells #[.int .u8 0, .int .u8 0, .int .u8 0, .int .u8 0, .int .u8 0, .int .u8 0] 40))).alloc (.cells #[.int .u8 0, .int .u8 0, .int .u8 0, .int .u8 0, .int .u8 0, .int .u8 0, .int .u32 0] 44) := ⟨_, rfl⟩
 have b12 : Below w1.heap.size w1 w2 := by rw [hw2]; exact (bR.alloc nL _).alloc (by simp) _
 have b02 : Below w.heap.size w w2 := (show Below w.heap.size w w1 by rw [hw1]; exact bR.alloc nL _).trans (b12.mono (by omega))
 have HOP := hid (hop.below b12)
 have HW2 : Hid (w2 = ((w.alloc (.cells o.cells 46)).alloc (.cells #[.int .u8 0, .int .u8 0, .int .u8 0, .int .u8 0, .int .u8 0, .int .u8 0] 40)).alloc (.cells #[.int .u8 0, .int .u8 0, .int .u8 0, .int .u8 0, .int .u8 0, .int .u8 0, .int .u32 0] 44)) := by unfold Hid; rw [hw2, hw1]
 have rk : w2.heap[w.heap.size + 1]? = some (.cells #[.int .u8 0, .int .u8 0, .int .u8 0, .int .u8 0, .int .u8 0, .int .u8 0] 40) := by
  rw [hw2, <- hs1, Below.heap_alloc _ _ _ (by simp)]; exact heap_alloc_new w1 _
 have re : w2.heap[w.heap.size + 2]? = some (.cells #[.int .u8 0, .int .u8 0, .int .u8 0, .int .u8 0, .int .u8 0, .int .u8 0, .int .u32 0] 44) := by
  have := heap_alloc_new (w1.alloc (.cells #[.int .u8 0, .int .u8 0, .int .u8 0, .int .u8 0, .int .u8 0, .int .u8 0] 40)) (.cells #[.int .u8 0, .int .u8 0, .int .u8 0, .int .u8 0, .int .u8 0, .int .u8 0, .int .u32 0] 44)
  rw [World.size_alloc, hs1] at this
  rw [hw2]; exact this
 have HRK := hid rk
 have HRE := hid re
 have HB2 := hid b02
 have HS2 : Hid (w2.heap.size = w.heap.size + 3) := by unfold Hid; rw [hw2]; simp; omega
 have HI0 : Hid (IT w2 w2.heap.size [⟨5, true, w.heap.size + 1, #[.int .u8 (o.f.mac.b0 : Int), .int .u8 (o.f.mac.b1 : Int), .int .u8 (o.f.mac.b2 : Int), .int .u8 (o.f.mac.b3 : Int), .int .u8 (o.f.mac.b4 : Int), .int .u8 (o.f.mac.b5 : Int)], 40⟩, ⟨6, true, w.heap.size + 2, o.f.cells, 44⟩] w2) := ⟨Chg.refl _ _, fun q hq _ => by
   simp at hq
   rcases hq with rfl | rfl
   ·exact ⟨#[.int .u8 0, .int .u8 0, .int .u8 0, .int .u8 0, .int .u8 0, .int .u8 0], rfl, HRK.out⟩
   ·exact ⟨#[.int .u8 0, .int .u8 0, .int .u8 0, .int .u8 0, .int .u8 0, .int .u8 0, .int .u32 0], rfl, HRE.out⟩⟩
 clear hw1 hw2 hop hs1 b12 b02 re rk
 go_enter Tryz.func39, Tryz.ntmps39
 go_upto_region 1 with fail
 rw [<- HW2.out]
 refine wp_region_all' 7 (fun i => ([some 4, some 5, some 6, some 7, some 8, none, none] : List (Option Tmp)).getD i none) (FT [.inl (.pointer (some ⟨w.heap.size, 12, none⟩)), .inl (.pointer (some ⟨w.heap.size, 12, none⟩)), .inl (o.f.mac.v), .inl (.pointer (some ⟨w.heap.size, 12, none⟩)), .inl (.agg o.f.cells), .inl (undef), .inl (undef)] (w2.heap.size) [⟨5, true, w.heap.size + 1, #[.int .u8 (o.f.mac.b0 : Int), .int .u8 (o.f.mac.b1 : Int), .int .u8 (o.f.mac.b2 : Int), .int .u8 (o.f.mac.b3 : Int), .int .u8 (o.f.mac.b4 : Int), .int .u8 (o.f.mac.b5 : Int)], 40⟩, ⟨6, true, w.heap.size + 2, o.f.cells, 44⟩]) (IT w2 (w2.heap.size) [⟨5, true, w.heap.size + 1, #[.int .u8 (o.f.mac.b0 : Int), .int .u8 (o.f.mac.b1 : Int), .int .u8 (o.f.mac.b2 : Int), .int .u8 (o.f.mac.b3 : Int), .int .u8 (o.f.mac.b4 : Int), .int .u8 (o.f.mac.b5 : Int)], 40⟩, ⟨6, true, w.heap.size + 2, o.f.cells, 44⟩]) (RT [⟨5, true, w.heap.size + 1, #[.int .u8 (o.f.mac.b0 : Int), .int .u8 (o.f.mac.b1 : Int), .int .u8 (o.f.mac.b2 : Int), .int .u8 (o.f.mac.b3 : Int), .int .u8 (o.f.mac.b4 : Int), .int .u8 (o.f.mac.b5 : Int)], 40⟩, ⟨6, true, w.heap.size + 2, o.f.cells, 44⟩]) (by kernel_rfl) (by kernel_rfl) (it_start (HI0.out.2)) (FT.keeps _ _ _ _ _ (by kernel_rfl)) ?_ ?_
 ·simp only [N.stepsAll]
  refine ⟨?_, ?_, ?_, ?_, ?_, ?_, ?_, trivial⟩
  ·intro a u vs hI hold hdep
   exact ft_still (ex_field _ ⟨w.heap.size, 0, none⟩ (.tmp 1) 3 _ rfl (hold 1 (dl_of (L := [some 4, some 5, some 6, some 7, some 8, none, none]) (by decide))) ((fld_op u).2.2.2)) rfl rfl rfl hI
  ·intro a u vs hI hold hdep
   have d0 := hdep ⟨0, .data⟩ (by simp) rfl
   exact ft_still (ex_field _ ⟨w.heap.size, 12, none⟩ (.tmp 4) 0 _ rfl (ft_dep d0.1 (d0.2 4 rfl) rfl) ((fld_eF u).1)) rfl rfl rfl hI
  ·intro a u vs hI hold hdep
   have d1 := hdep ⟨1, .data⟩ (by simp) rfl
   exact ft_still (ex_load _ ⟨w.heap.size, 12, none⟩ (.tmp 5) _ rfl (ft_dep d1.1 (d1.2 5 rfl) rfl) (OpB.fmac (hI.kind HOP.out (by rw [HS2.out]; omega) HI0.out rfl))) rfl rfl rfl hI
  ·intro a u vs hI hold hdep
   exact ft_still (ex_field _ ⟨w.heap.size, 0, none⟩ (.tmp 1) 3 _ rfl (hold 1 (dl_of (L := [some 4, some 5, some 6, some 7, some 8, none, none]) (by decide))) ((fld_op u).2.2.2)) rfl rfl rfl hI
  ·intro a u vs hI hold hdep
   have d3 := hdep ⟨3, .data⟩ (by simp) rfl
   exact ft_still (ex_load _ ⟨w.heap.size, 12, none⟩ (.tmp 7) _ rfl (ft_dep d3.1 (d3.2 7 rfl) rfl) (OpB.fdb (hI.kind HOP.out (by rw [HS2.out]; omega) HI0.out rfl))) rfl rfl rfl hI
  ·intro a u vs hI hold hdep
   have d2 := hdep ⟨2, .data⟩ (by simp) rfl
   exact ft_old (g := w.heap.size + 1) (row := #[.int .u8 (o.f.mac.b0 : Int), .int .u8 (o.f.mac.b1 : Int), .int .u8 (o.f.mac.b2 : Int), .int .u8 (o.f.mac.b3 : Int), .int .u8 (o.f.mac.b4 : Int), .int .u8 (o.f.mac.b5 : Int)]) (T := 40) rfl rfl (hold 2 (dl_of (L := [some 4, some 5, some 6, some 7, some 8, none, none]) (by decide))) (ft_dep d2.1 (d2.2 6 rfl) rfl) (by simp) (fun q hq e => by simp only [List.mem_cons, List.not_mem_nil, or_false] at hq; rcases hq with rfl | rfl <;> first | rfl | (exact absurd e (by simp))) (by kernel_rfl) (by simp [Value.oneCell']) rfl (by kernel_rfl) hI
  ·intro a u vs hI hold hdep
   have d4 := hdep ⟨4, .data⟩ (by simp) rfl
   exact ft_old (g := w.heap.size + 2) (row := o.f.cells) (T := 44) rfl rfl (hold 3 (dl_of (L := [some 4, some 5, some 6, some 7, some 8, none, none]) (by decide))) (ft_dep d4.1 (d4.2 8 rfl) rfl) (by simp) (fun q hq e => by simp only [List.mem_cons, List.not_mem_nil, or_false] at hq; rcases hq with rfl | rfl <;> first | rfl | (exact absurd e (by simp))) (by kernel_rfl) (one_cells o.f) rfl (by kernel_rfl) hI
 intro vs u hI hF
 have e0 : vs 0 = .pointer (some ⟨w.heap.size, 12, none⟩) := (hF 0 (by decide)).is rfl
 have e1 : vs 1 = .pointer (some ⟨w.heap.size, 12, none⟩) := (hF 1 (by decide)).is rfl
 have e2 : vs 2 = o.f.mac.v := (hF 2 (by decide)).is rfl
 have e3 : vs 3 = .pointer (some ⟨w.heap.size, 12, none⟩) := (hF 3 (by decide)).is rfl
 have e4 : vs 4 = .agg o.f.cells := (hF 4 (by decide)).is rfl
 have e5 : vs 5 = undef := (hF 5 (by decide)).is rfl
 have e6 : vs 6 = undef := (hF 6 (by decide)).is rfl
 have st5 := (hF 5 (by decide)).stored (k := w.heap.size + 1) (row := #[.int .u8 (o.f.mac.b0 : Int), .int .u8 (o.f.mac.b1 : Int), .int .u8 (o.f.mac.b2 : Int), .int .u8 (o.f.mac.b3 : Int), .int .u8 (o.f.mac.b4 : Int), .int .u8 (o.f.mac.b5 : Int)]) (T := 40) (by simp)
 have st6 := (hF 6 (by decide)).stored (k := w.heap.size + 2) (row := o.f.cells) (T := 44) (by simp)
 have hch := hI.1
 clear hF
 simp only [putsO, List.range, List.range.loop, List.foldr, if_true, List.getD_cons_zero, List.getD_cons_succ, e0, e1, e2, e3, e4, Act.put, List.setIfInBounds_toArray, List.set_cons_zero, List.set_cons_succ]
 clear e0 e1 e2 e3 e4 e5 e6
 clear hI
 have u0 : u.cell? ⟨w.heap.size + 2, 0, none⟩ = some (.int .u8 (o.f.mac.b0 : Int)) := crw st6 rfl
 have u1 : u.cell? ⟨w.heap.size + 2, 1, none⟩ = some (.int .u8 (o.f.mac.b1 : Int)) := crw st6 rfl
 have u2 : u.cell? ⟨w.heap.size + 2, 2, none⟩ = some (.int .u8 (o.f.mac.b2 : Int)) := crw st6 rfl
 have u3 : u.cell? ⟨w.heap.size + 2, 3, none⟩ = some (.int .u8 (o.f.mac.b3 : Int)) := crw st6 rfl
 have u4 : u.cell? ⟨w.heap.size + 2, 4, none⟩ = some (.int .u8 (o.f.mac.b4 : Int)) := crw st6 rfl
 have u5 : u.cell? ⟨w.heap.size + 2, 5, none⟩ = some (.int .u8 (o.f.mac.b5 : Int)) := crw st6 rfl
 have u6 : u.cell? ⟨w.heap.size + 2, 6, none⟩ = some (.int .u32 (o.f.dest : Int)) := crw st6 rfl
 have v0 : u.cell? ⟨w.heap.size + 1, 0, none⟩ = some (.int .u8 (o.f.mac.b0 : Int)) := crw st5 rfl
 have v1 : u.cell? ⟨w.heap.size + 1, 1, none⟩ = some (.int .u8 (o.f.mac.b1 : Int)) := crw st5 rfl
 have v2 : u.cell? ⟨w.heap.size + 1, 2, none⟩ = some (.int .u8 (o.f.mac.b2 : Int)) := crw st5 rfl
 have v3 : u.cell? ⟨w.heap.size + 1, 3, none⟩ = some (.int .u8 (o.f.mac.b3 : Int)) := crw st5 rfl
 have v4 : u.cell? ⟨w.heap.size + 1, 4, none⟩ = some (.int .u8 (o.f.mac.b4 : Int)) := crw st5 rfl
 have v5 : u.cell? ⟨w.heap.size + 1, 5, none⟩ = some (.int .u8 (o.f.mac.b5 : Int)) := crw st5 rfl
 have hbf : Below w.heap.size w u := hch.below' HB2.out HB2.out.size (fun j hj => by
  rcases hj with hj | ⟨q, hq, _, e⟩
  ·have := HB2.out.size; omega
  ·simp at hq
   rcases hq with rfl | rfl <;> simp only at e <;> omega)
 go_wp2_with fail
 refine bodyPost_ret (v := .tuple #[o.f.mac.v, .agg o.f.cells]) (by simp [results, Tryz.results39, go_sem, u0, u1, u2, u3, u4, u5, u6, v0, v1, v2, v3, v4, v5, Fd.cells, Mc.v]) rfl ⟨rfl, hbf⟩
theorem countF_any {nb bm room : Nat} {L : List Fd} (w : World) (h : BdF w nb bm room L) : Calls Tryz.prog 158 #[.pointer (some ⟨nb, 0, none⟩)] w fun e w' => e = .returned (.int .i64 (L.length : Int)) /\ w' = w := by
 obtain ⟨-, c1, -, -⟩ := h.cells
 have HLN := fun ty => hid (h.map.len ty)
 clear h
 go_enter Tryz.func158, Tryz.ntmps158
 go_wp2_with (first | (at_len; refine wpList_len_run _ rfl _ _ rfl _ rfl (HLN _).out ?_) | fail)
 go_ret
 exact ⟨rfl, rfl⟩
theorem admitF_any {nb bm room : Nat} {L : List Fd} (w : World) (b : Bool) (h : BdF w nb bm room L) : Calls Tryz.prog 147 #[.iface 68 (.pointer (some ⟨nb, 0, none⟩)), .int .i64 (room : Int), .bool b] w fun e w' => e = .returned (.int .i64 (if b then 0 else if room <= L.length then 4 else 0)) /\ w' = w := by
 have HC := hid (countF_any w h)
 have hm : ∀ u : World, (method 334 68 (.pointer (some ⟨nb, 0, none⟩)) "weft/tables.count").run Tryz.prog u = .ok (158, .pointer (some ⟨nb, 0, none⟩)) u := fun u => by kernel_rfl
 obtain ⟨n, hn⟩ : ∃ n, n = L.length := ⟨_, rfl⟩
 rw [<- hn] at HC ⊢
 clear h hn
 cases b
 ·by_cases hl : room <= n
  ·have HE : Hid ((if false = true then (0 : Int) else if room <= n then 4 else 0) = 4) := by unfold Hid; simp [hl]
   have q1 : (room : Int) <= (n : Int) := by omega
   rw [HE.out]
   clear HE
   go_enter Tryz.func147, Tryz.ntmps147
   go_wp2_with fail
   refine HC.out.mono ?_
   rintro _ _ ⟨rfl, ew⟩
   obtain rfl := ew.symm
   go_wp2_with fail
   go_ret
   exact ⟨rfl, rfl⟩
  ·have HE : Hid ((if false = true then (0 : Int) else if room <= n then 4 else 0) = 0) := by unfold Hid; simp [hl]
   have q1 : ¬ (room : Int) <= (n : Int) := by omega
   rw [HE.out]
   clear HE
   go_enter Tryz.func147, Tryz.ntmps147
   go_wp2_with fail
   refine HC.out.mono ?_
   rintro _ _ ⟨rfl, ew⟩
   obtain rfl := ew.symm
   go_wp2_with fail
   go_ret
   exact ⟨rfl, rfl⟩
 ·go_enter Tryz.func147, Tryz.ntmps147
  go_wp2_with fail
  go_ret
  exact ⟨rfl, rfl⟩
def bEF (L : List Fd) (room : Nat) (k : Mc) : Int := if (lk Fd.mac L k).isSome then 0 else if room <= L.length then 4 else 0
theorem load_fnF {u : World} {p : Addr} {f : Fn} {a b : Array Value} (h : u.cell? p = some (.func f a b)) : (Instr.loadAt 100 (.pointer (some p))).run Tryz.prog u = .ok (.func f a b) u := by
 simp [go_sem, h]
def PtF (x : Int) (w' : World) (nb bm room : Nat) (L L' : List Fd) : Prop := (x = 0 -> BdF w' nb bm room L') /\ (x ≠ 0 -> BdF w' nb bm room L)
theorem putF_any {nb bm room : Nat} {L : List Fd} (w : World) (o : Opv) (h : BdF w nb bm room L) (ho : o.Ok) :
  Calls Tryz.prog 160 #[.pointer (some ⟨nb, 0, none⟩), .agg o.cells] w fun e w' => e = .returned (.int .i64 (bEF L room o.f.mac)) /\ PtF (bEF L room o.f.mac) w' nb bm room L (putK Fd.mac L o.f) /\ Chg (fun b => b = bm) w w' := by
 obtain ⟨x, HX⟩ : ∃ x, Hid (x = bEF L room o.f.mac) := ⟨_, rfl⟩
 rw [<- HX.out]
 obtain ⟨w1, hw1⟩ : ∃ w1, w1 = w.alloc (.cells o.cells 46) := ⟨_, rfl⟩
 have hs1 : w1.heap.size = w.heap.size + 1 := by rw [hw1]; simp
 have hb1 : Below w.heap.size w w1 := by rw [hw1]; exact bR.alloc nL _
 have hop : OpB w1 w.heap.size o := by unfold OpB; rw [hw1]; exact heap_alloc_new w _
 have h1 := h.below hb1
 have HW1 := hid hw1
 have HOP := hid hop
 have HB1 := hid hb1
 have HS1 := hid hs1
 have HBD := hid h1
 have HROW := hid h1.row
 have HLT := hid h.lt
 have HI0 : Hid (IT w1 w1.heap.size [⟨11, false, 9, #[.int .u8 (o.f.mac.b0 : Int), .int .u8 (o.f.mac.b1 : Int), .int .u8 (o.f.mac.b2 : Int), .int .u8 (o.f.mac.b3 : Int), .int .u8 (o.f.mac.b4 : Int), .int .u8 (o.f.mac.b5 : Int)], 40⟩, ⟨12, false, 10, o.f.cells, 44⟩] w1) := ⟨Chg.refl _ _, fun q hq e => by simp at hq; rcases hq with rfl | rfl <;> cases e⟩
 have HOK := hid ho.fm
 clear hw1 hop hb1 h1 hs1 h ho
 go_enter Tryz.func160, Tryz.ntmps160
 go_upto_region 1 with fail
 rw [<- HW1.out]
 refine wp_region_all' 13 (fun i => ([some 11, some 12, some 13, some 14, some 15, some 16, some 10, some 17, some 18, some 5, some 6, none, none] : List (Option Tmp)).getD i none) (FT [.inl (.pointer (some ⟨nb, 0, none⟩)), .inl (.pointer (some ⟨nb, 0, none⟩)), .inl (.pointer (some ⟨nb, 2, none⟩)), .inl (.func (.func 39) #[] #[]), .inl (.agg o.cells), .inl (.tuple #[o.f.mac.v, .agg o.f.cells]), .inl (.tuple #[o.f.mac.v, .agg o.f.cells]), .inl (o.f.mac.v), .inl (.agg o.f.cells), .inr (#[.int .u8 0, .int .u8 0, .int .u8 0, .int .u8 0, .int .u8 0, .int .u8 0], 40), .inr (#[.int .u8 0, .int .u8 0, .int .u8 0, .int .u8 0, .int .u8 0, .int .u8 0, .int .u32 0], 44), .inl (undef), .inl (undef)] (w1.heap.size) [⟨11, false, 9, #[.int .u8 (o.f.mac.b0 : Int), .int .u8 (o.f.mac.b1 : Int), .int .u8 (o.f.mac.b2 : Int), .int .u8 (o.f.mac.b3 : Int), .int .u8 (o.f.mac.b4 : Int), .int .u8 (o.f.mac.b5 : Int)], 40⟩, ⟨12, false, 10, o.f.cells, 44⟩]) (IT w1 (w1.heap.size) [⟨11, false, 9, #[.int .u8 (o.f.mac.b0 : Int), .int .u8 (o.f.mac.b1 : Int), .int .u8 (o.f.mac.b2 : Int), .int .u8 (o.f.mac.b3 : Int), .int .u8 (o.f.mac.b4 : Int), .int .u8 (o.f.mac.b5 : Int)], 40⟩, ⟨12, false, 10, o.f.cells, 44⟩]) (RT [⟨11, false, 9, #[.int .u8 (o.f.mac.b0 : Int), .int .u8 (o.f.mac.b1 : Int), .int .u8 (o.f.mac.b2 : Int), .int .u8 (o.f.mac.b3 : Int), .int .u8 (o.f.mac.b4 : Int), .int .u8 (o.f.mac.b5 : Int)], 40⟩, ⟨12, false, 10, o.f.cells, 44⟩]) (by kernel_rfl) (by kernel_rfl) (it_start (HI0.out.2)) (FT.keeps _ _ _ _ _ (by kernel_rfl)) ?_ ?_
 ·simp only [N.stepsAll]
  refine ⟨?_, ?_, ?_, ?_, ?_, ?_, ?_, ?_, ?_, ?_, ?_, ?_, ?_, trivial⟩
  ·intro a u vs hI hold hdep
   exact ft_still (ex_move (.tmp 0) _ rfl (hold 0 (dl_of (L := [some 11, some 12, some 13, some 14, some 15, some 16, some 10, some 17, some 18, some 5, some 6, none, none]) (by decide)))) rfl rfl rfl hI
  ·intro a u vs hI hold hdep
   have d0 := hdep ⟨0, .data⟩ (by simp) rfl
   exact ft_still (ex_nil ⟨nb, 0, none⟩ (.tmp 11) rfl (ft_dep d0.1 (d0.2 11 rfl) rfl)) rfl rfl rfl hI
  ·intro a u vs hI hold hdep
   have d1 := hdep ⟨1, .data⟩ (by simp) rfl
   exact ft_still (ex_field _ ⟨nb, 0, none⟩ (.tmp 12) 2 _ rfl (ft_dep d1.1 (d1.2 12 rfl) rfl) ((fld_bF u).2.2.1)) rfl rfl rfl hI
  ·intro a u vs hI hold hdep
   have d2 := hdep ⟨2, .data⟩ (by simp) rfl
   exact ft_still (ex_load _ ⟨nb, 2, none⟩ (.tmp 13) _ rfl (ft_dep d2.1 (d2.2 13 rfl) rfl) (load_fnF (by rw [cell_of_row _ _ _ _ _ _ (hI.kind HROW.out (by rw [HS1.out]; have := HLT.out; omega) HI0.out rfl)]; rfl))) rfl rfl rfl hI
  ·intro a u vs hI hold hdep
   exact ft_still (ex_load _ ⟨w.heap.size, 0, none⟩ (.tmp 3) _ rfl (hold 3 (dl_of (L := [some 11, some 12, some 13, some 14, some 15, some 16, some 10, some 17, some 18, some 5, some 6, none, none]) (by decide))) (OpB.load (hI.kind HOP.out (by rw [HS1.out]; omega) HI0.out rfl))) rfl rfl rfl hI
  ·intro a u vs hI hold hdep
   have d3 := hdep ⟨3, .data⟩ (by simp) rfl
   have d4 := hdep ⟨4, .data⟩ (by simp) rfl
   have ef : a.eval (.tmp 14) = .func (.func 39) #[] #[] := (ft_dep d3.1 (d3.2 14 rfl) rfl)
   have e0 : a.eval (.tmp 15) = .agg o.cells := (ft_dep d4.1 (d4.2 15 rfl) rfl)
   refine wp_callV 39 (.tmp 14) _ _ rfl ef (enters_of Tryz.func39 (by kernel_rfl) rfl) #[.agg o.cells] (by simp only [List.map_toArray, List.map_cons, List.map_nil, e0]) ?_
   exact ft_ret rfl rfl rfl hI (partF_any o u)
  ·intro a u vs hI hold hdep
   have d5 := hdep ⟨5, .data⟩ (by simp) rfl
   exact ft_still (ex_move (.tmp 16) _ rfl (ft_dep d5.1 (d5.2 16 rfl) rfl)) rfl rfl rfl hI
  ·intro a u vs hI hold hdep
   have d6 := hdep ⟨6, .data⟩ (by simp) rfl
   exact ft_still (ex_extract (.tmp 10) 0 _ _ rfl (ft_dep d6.1 (d6.2 10 rfl) rfl) rfl) rfl rfl rfl hI
  ·intro a u vs hI hold hdep
   have d6 := hdep ⟨6, .data⟩ (by simp) rfl
   exact ft_still (ex_extract (.tmp 10) 1 _ _ rfl (ft_dep d6.1 (d6.2 10 rfl) rfl) rfl) rfl rfl rfl hI
  ·intro a u vs hI hold hdep
   exact ft_alloc (ex_alloc u rfl (fun u => by kernel_rfl)) rfl rfl rfl hI nL
  ·intro a u vs hI hold hdep
   exact ft_alloc (ex_alloc u rfl (fun u => by kernel_rfl)) rfl rfl rfl hI nL
  ·intro a u vs hI hold hdep
   have d7 := hdep ⟨7, .data⟩ (by simp) rfl
   have dn := hdep ⟨9, .data⟩ (by simp) rfl
   obtain ⟨b, old, hx, hvk, hBg, hs, hg⟩ := ft_depN dn.1 (dn.2 5 rfl) rfl
   exact ft_new (k := 9) (row := #[.int .u8 (o.f.mac.b0 : Int), .int .u8 (o.f.mac.b1 : Int), .int .u8 (o.f.mac.b2 : Int), .int .u8 (o.f.mac.b3 : Int), .int .u8 (o.f.mac.b4 : Int), .int .u8 (o.f.mac.b5 : Int)]) (T := 40) rfl rfl (by decide) hx hvk hBg hs hg (ft_dep d7.1 (d7.2 17 rfl) rfl) (by simp) (fun q hq e => by simp only [List.mem_cons, List.not_mem_nil, or_false] at hq; rcases hq with rfl | rfl <;> first | rfl | (exact absurd e (by simp))) (by kernel_rfl) (by simp [Value.oneCell']) rfl (by kernel_rfl) hI
  ·intro a u vs hI hold hdep
   have d8 := hdep ⟨8, .data⟩ (by simp) rfl
   have dn := hdep ⟨10, .data⟩ (by simp) rfl
   obtain ⟨b, old, hx, hvk, hBg, hs, hg⟩ := ft_depN dn.1 (dn.2 6 rfl) rfl
   exact ft_new (k := 10) (row := o.f.cells) (T := 44) rfl rfl (by decide) hx hvk hBg hs hg (ft_dep d8.1 (d8.2 18 rfl) rfl) (by simp) (fun q hq e => by simp only [List.mem_cons, List.not_mem_nil, or_false] at hq; rcases hq with rfl | rfl <;> first | rfl | (exact absurd e (by simp))) (by kernel_rfl) (one_cells o.f) rfl (by kernel_rfl) hI
 intro vs u hI hF
 have e0 : vs 0 = .pointer (some ⟨nb, 0, none⟩) := (hF 0 (by decide)).is rfl
 have e1 : vs 1 = .pointer (some ⟨nb, 0, none⟩) := (hF 1 (by decide)).is rfl
 have e2 : vs 2 = .pointer (some ⟨nb, 2, none⟩) := (hF 2 (by decide)).is rfl
 have e3 : vs 3 = .func (.func 39) #[] #[] := (hF 3 (by decide)).is rfl
 have e4 : vs 4 = .agg o.cells := (hF 4 (by decide)).is rfl
 have e5 : vs 5 = .tuple #[o.f.mac.v, .agg o.f.cells] := (hF 5 (by decide)).is rfl
 have e6 : vs 6 = .tuple #[o.f.mac.v, .agg o.f.cells] := (hF 6 (by decide)).is rfl
 have e7 : vs 7 = o.f.mac.v := (hF 7 (by decide)).is rfl
 have e8 : vs 8 = .agg o.f.cells := (hF 8 (by decide)).is rfl
 obtain ⟨b9, e9, hb9⟩ := (hF 9 (by decide)).newB rfl
 obtain ⟨b10, e10, hb10⟩ := (hF 10 (by decide)).newB rfl
 have e11 : vs 11 = undef := (hF 11 (by decide)).is rfl
 have e12 : vs 12 = undef := (hF 12 (by decide)).is rfl
 obtain ⟨bb11, f11, st11⟩ := (hF 11 (by decide)).storedN (k := 9) (row := #[.int .u8 (o.f.mac.b0 : Int), .int .u8 (o.f.mac.b1 : Int), .int .u8 (o.f.mac.b2 : Int), .int .u8 (o.f.mac.b3 : Int), .int .u8 (o.f.mac.b4 : Int), .int .u8 (o.f.mac.b5 : Int)]) (T := 40) (by simp)
 obtain rfl : b9 = bb11 := by rw [e9] at f11; simpa using f11
 clear f11
 obtain ⟨bb12, f12, st12⟩ := (hF 12 (by decide)).storedN (k := 10) (row := o.f.cells) (T := 44) (by simp)
 obtain rfl : b10 = bb12 := by rw [e10] at f12; simpa using f12
 clear f12
 have hch := hI.1
 clear hF
 simp only [putsO, List.range, List.range.loop, List.foldr, if_true, List.getD_cons_zero, List.getD_cons_succ, e0, e1, e2, e3, e4, e5, e6, e7, e8, e9, e10, Act.put, List.setIfInBounds_toArray, List.set_cons_zero, List.set_cons_succ]
 clear e0 e1 e2 e3 e4 e5 e6 e7 e8 e9 e10 e11 e12
 have hb : Below w1.heap.size w1 u := hch.below' bR nL (fun j hj => by
  rcases hj with hj | ⟨q, hq, e, _⟩
  ·exact hj
  ·simp at hq
   rcases hq with rfl | rfl <;> cases e)
 have HU : Hid (Below w.heap.size w u) := HB1.out.trans (hb.mono (by have := HS1.out; omega))
 have HBU := hid (HBD.out.below hb)
 have HEB := hid st12
 have HKB := hid st11
 clear hI hch hb st12 st11
 obtain ⟨ee, HEE⟩ : ∃ ee, Hid (ee = (lk Fd.mac L o.f.mac).getD gF.z) := ⟨_, rfl⟩
 obtain ⟨bs, HBS⟩ : ∃ bs, Hid (bs = (lk Fd.mac L o.f.mac).isSome) := ⟨_, rfl⟩
 have HRU := hid HBU.out.row
 have HMU := hid HBU.out.map
 have HLU := hid HBU.out.lt
 have HI2 : Hid (IT u u.heap.size [⟨10, false, 9, ee.cells, 44⟩] u) := ⟨Chg.refl _ _, fun q hq e => by simp at hq; subst hq; cases e⟩
 clear hb9 hb10
 go_upto_region 2 with fail
 refine wp_region_all' 12 (fun i => ([some 20, some 21, some 22, some 23, some 24, some 25, some 19, some 26, some 27, some 7, none, some 8] : List (Option Tmp)).getD i none) (FT [.inl (.pointer (some ⟨nb, 0, none⟩)), .inl (.pointer (some ⟨nb, 0, none⟩)), .inl (.pointer (some ⟨nb, 1, none⟩)), .inl (.map (some bm)), .inl (o.f.mac.v), .inl (.tuple #[.agg ee.cells, .bool bs]), .inl (.tuple #[.agg ee.cells, .bool bs]), .inl (.agg ee.cells), .inl (.bool bs), .inr (#[.int .u8 0, .int .u8 0, .int .u8 0, .int .u8 0, .int .u8 0, .int .u8 0, .int .u32 0], 44), .inl (undef), .inl (.bool bs)] (u.heap.size) [⟨10, false, 9, ee.cells, 44⟩]) (IT u (u.heap.size) [⟨10, false, 9, ee.cells, 44⟩]) (RT [⟨10, false, 9, ee.cells, 44⟩]) (by kernel_rfl) (by kernel_rfl) (it_start (HI2.out.2)) (FT.keeps _ _ _ _ _ (by kernel_rfl)) ?_ ?_
 ·simp only [N.stepsAll]
  refine ⟨?_, ?_, ?_, ?_, ?_, ?_, ?_, ?_, ?_, ?_, ?_, ?_, trivial⟩
  ·intro a u_ vs hI hold hdep
   exact ft_still (ex_move (.tmp 0) _ rfl (hold 0 (dl_of (L := [some 20, some 21, some 22, some 23, some 24, some 25, some 19, some 26, some 27, some 7, none, some 8]) (by decide)))) rfl rfl rfl hI
  ·intro a u_ vs hI hold hdep
   have d0 := hdep ⟨0, .data⟩ (by simp) rfl
   exact ft_still (ex_nil ⟨nb, 0, none⟩ (.tmp 20) rfl (ft_dep d0.1 (d0.2 20 rfl) rfl)) rfl rfl rfl hI
  ·intro a u_ vs hI hold hdep
   have d1 := hdep ⟨1, .data⟩ (by simp) rfl
   exact ft_still (ex_field _ ⟨nb, 0, none⟩ (.tmp 21) 1 _ rfl (ft_dep d1.1 (d1.2 21 rfl) rfl) ((fld_bF u_).2.1)) rfl rfl rfl hI
  ·intro a u_ vs hI hold hdep
   have d2 := hdep ⟨2, .data⟩ (by simp) rfl
   exact ft_still (ex_load _ ⟨nb, 1, none⟩ (.tmp 22) _ rfl (ft_dep d2.1 (d2.2 22 rfl) rfl) (load_mpF (by rw [cell_of_row _ _ _ _ _ _ ((hI.same HLU.out.1 HLU.out.1 rfl).trans HRU.out)]; rfl))) rfl rfl rfl hI
  ·intro a u_ vs hI hold hdep
   exact ft_still (ex_load _ ⟨b9, 0, none⟩ (.tmp 5) _ rfl (hold 5 (dl_of (L := [some 20, some 21, some 22, some 23, some 24, some 25, some 19, some 26, some 27, some 7, none, some 8]) (by decide))) (load_at (cs := [.int .u8 (o.f.mac.b0 : Int), .int .u8 (o.f.mac.b1 : Int), .int .u8 (o.f.mac.b2 : Int), .int .u8 (o.f.mac.b3 : Int), .int .u8 (o.f.mac.b4 : Int), .int .u8 (o.f.mac.b5 : Int)]) ((hI.same (gsl HKB.out) (gsl HKB.out) rfl).trans HKB.out) rfl uM rfl (by kernel_rfl))) rfl rfl rfl hI
  ·intro a u_ vs hI hold hdep
   have d3 := hdep ⟨3, .data⟩ (by simp) rfl
   have d4 := hdep ⟨4, .data⟩ (by simp) rfl
   exact ft_still (ex_lookup _ (.tmp 23) (.tmp 24) true _ _ _ rfl (ft_dep d3.1 (d3.2 23 rfl) rfl) (ft_dep d4.1 (d4.2 24 rfl) rfl) (by have h2 := (HMU.out.kept (hI.same HLU.out.2 HLU.out.2 rfl)).look (G := gF) HOK.out; rw [<- HEE.out, <- HBS.out] at h2; exact h2)) rfl rfl rfl hI
  ·intro a u_ vs hI hold hdep
   have d5 := hdep ⟨5, .data⟩ (by simp) rfl
   exact ft_still (ex_move (.tmp 25) _ rfl (ft_dep d5.1 (d5.2 25 rfl) rfl)) rfl rfl rfl hI
  ·intro a u_ vs hI hold hdep
   have d6 := hdep ⟨6, .data⟩ (by simp) rfl
   exact ft_still (ex_extract (.tmp 19) 0 _ _ rfl (ft_dep d6.1 (d6.2 19 rfl) rfl) rfl) rfl rfl rfl hI
  ·intro a u_ vs hI hold hdep
   have d6 := hdep ⟨6, .data⟩ (by simp) rfl
   exact ft_still (ex_extract (.tmp 19) 1 _ _ rfl (ft_dep d6.1 (d6.2 19 rfl) rfl) rfl) rfl rfl rfl hI
  ·intro a u_ vs hI hold hdep
   exact ft_alloc (ex_alloc u_ rfl (fun u => by kernel_rfl)) rfl rfl rfl hI nL
  ·intro a u_ vs hI hold hdep
   have d7 := hdep ⟨7, .data⟩ (by simp) rfl
   have dn := hdep ⟨9, .data⟩ (by simp) rfl
   obtain ⟨b, old, hx, hvk, hBg, hs, hg⟩ := ft_depN dn.1 (dn.2 7 rfl) rfl
   exact ft_new (k := 9) (row := ee.cells) (T := 44) rfl rfl (by decide) hx hvk hBg hs hg (ft_dep d7.1 (d7.2 26 rfl) rfl) (by simp) (fun q hq e => by simp only [List.mem_cons, List.not_mem_nil, or_false] at hq; rcases hq with rfl <;> first | rfl | (exact absurd e (by simp))) (by kernel_rfl) (one_cells ee) rfl (by kernel_rfl) hI
  ·intro a u_ vs hI hold hdep
   have d8 := hdep ⟨8, .data⟩ (by simp) rfl
   exact ft_still (ex_assign (.tmp 27) _ rfl (ft_dep d8.1 (d8.2 27 rfl) rfl)) rfl rfl rfl hI
 intro vs u2 hI hF
 have e0 : vs 0 = .pointer (some ⟨nb, 0, none⟩) := (hF 0 (by decide)).is rfl
 have e1 : vs 1 = .pointer (some ⟨nb, 0, none⟩) := (hF 1 (by decide)).is rfl
 have e2 : vs 2 = .pointer (some ⟨nb, 1, none⟩) := (hF 2 (by decide)).is rfl
 have e3 : vs 3 = .map (some bm) := (hF 3 (by decide)).is rfl
 have e4 : vs 4 = o.f.mac.v := (hF 4 (by decide)).is rfl
 have e5 : vs 5 = .tuple #[.agg ee.cells, .bool bs] := (hF 5 (by decide)).is rfl
 have e6 : vs 6 = .tuple #[.agg ee.cells, .bool bs] := (hF 6 (by decide)).is rfl
 have e7 : vs 7 = .agg ee.cells := (hF 7 (by decide)).is rfl
 have e8 : vs 8 = .bool bs := (hF 8 (by decide)).is rfl
 obtain ⟨bz, e9, hbz⟩ := (hF 9 (by decide)).newB rfl
 have e10 : vs 10 = undef := (hF 10 (by decide)).is rfl
 have e11 : vs 11 = .bool bs := (hF 11 (by decide)).is rfl
 obtain ⟨bb10, f10, st10⟩ := (hF 10 (by decide)).storedN (k := 9) (row := ee.cells) (T := 44) (by simp)
 obtain rfl : bz = bb10 := by rw [e9] at f10; simpa using f10
 clear f10
 have hch := hI.1
 clear hF
 simp only [putsO, List.range, List.range.loop, List.foldr, if_true, List.getD_cons_zero, List.getD_cons_succ, e0, e1, e2, e3, e4, e5, e6, e7, e8, e9, e11, Act.put, List.setIfInBounds_toArray, List.set_cons_zero, List.set_cons_succ]
 clear e0 e1 e2 e3 e4 e5 e6 e7 e8 e9 e10 e11
 have hbu2 := hI.below' nL rfl
 have HBU2 := hid (HBU.out.below hbu2)
 have HB02 : Hid (Below w.heap.size w u2) := HU.out.trans (hbu2.mono HU.out.size)
 have HE2 : Hid (u2.heap[b10]? = some (.cells o.f.cells 44)) := below_keeps hbu2 HEB.out (gsl HEB.out)
 have HK2 : Hid (u2.heap[b9]? = some (.cells #[.int .u8 (o.f.mac.b0 : Int), .int .u8 (o.f.mac.b1 : Int), .int .u8 (o.f.mac.b2 : Int), .int .u8 (o.f.mac.b3 : Int), .int .u8 (o.f.mac.b4 : Int), .int .u8 (o.f.mac.b5 : Int)] 40)) := below_keeps hbu2 HKB.out (gsl HKB.out)
 have HAD := hid (admitF_any u2 bs HBU2.out)
 obtain ⟨d0, d1, -, -⟩ := HBU2.out.cells
 clear hI hch hbu2 st10 hbz
 have HAX : Hid ((if bs = true then (0 : Int) else if room <= L.length then 4 else 0) = x) := by unfold Hid; rw [HX.out, HBS.out]; rfl
 rw [HAX.out] at HAD
 clear HAX
 go_wp2_with fail
 refine HAD.out.mono ?_
 rintro _ _ ⟨rfl, ew⟩
 obtain rfl := ew.symm
 by_cases hx : x = 0
 ·have HMU2 := hid HBU2.out.map
  have HRU2 := hid HBU2.out.row
  have HLU2 := hid HBU2.out.lt
  have HLE : Hid (L.length < 1000000) := by have := HBU2.out.le; unfold Hid; omega
  have HPL : Hid ((lk Fd.mac L o.f.mac).isSome = true \/ L.length < room) := by
   have := HX.out
   rw [hx] at this
   unfold bEF at this
   unfold Hid
   cases hq : (lk Fd.mac L o.f.mac).isSome with
   | true => exact .inl rfl
   | false =>
    rw [hq] at this
    right
    by_cases hl : room <= L.length
    ·simp [hl] at this
    ·omega
  subst hx
  clear HAD HX HBU d0 d1
  go_upto_region 6 with fail
  refine wp_region_mono' 6 (fun i => ([39, 40, 41, 42, 43, 44] : List Tmp).getD i 0) (FA [.inl (.pointer (some ⟨nb, 0, none⟩)), .inl (.pointer (some ⟨nb, 0, none⟩)), .inl (.pointer (some ⟨nb, 1, none⟩)), .inl (.map (some bm)), .inl (o.f.mac.v), .inl (.agg o.f.cells)] 0) (by kernel_rfl) (by kernel_rfl) (FA.keeps _ _) ?_ ?_
  ·simp only [List.take_succ_cons, List.take_zero, stepsOk]
   refine ⟨?_, ?_, ?_, ?_, ?_, ?_, trivial⟩
   ·intro a u_ vs hb hold hdep
    exact fa_still (ex_move (.tmp 0) _ rfl (hold 0 (dlM (L := [39, 40, 41, 42, 43, 44]) (by decide)))) rfl rfl hb
   ·intro a u_ vs hb hold hdep
    exact fa_still (ex_nil ⟨nb, 0, none⟩ (.tmp 39) rfl (FA.dep (hdep ⟨0, .data⟩ (by simp) rfl (by decide)) rfl)) rfl rfl hb
   ·intro a u_ vs hb hold hdep
    exact fa_still (ex_field _ ⟨nb, 0, none⟩ (.tmp 40) 1 _ rfl (FA.dep (hdep ⟨1, .data⟩ (by simp) rfl (by decide)) rfl) ((fld_bF u_).2.1)) rfl rfl hb
   ·intro a u_ vs hb hold hdep
    exact fa_still (ex_load _ ⟨nb, 1, none⟩ (.tmp 41) _ rfl (FA.dep (hdep ⟨2, .data⟩ (by simp) rfl (by decide)) rfl) (load_mpF (by rw [cell_of_row _ _ _ _ _ _ (below_keeps hb HRU2.out HLU2.out.1)]; rfl))) rfl rfl hb
   ·intro a u_ vs hb hold hdep
    exact fa_still (ex_load _ ⟨b9, 0, none⟩ (.tmp 5) _ rfl (hold 5 (dlM (L := [39, 40, 41, 42, 43, 44]) (by decide))) (load_at (cs := [.int .u8 (o.f.mac.b0 : Int), .int .u8 (o.f.mac.b1 : Int), .int .u8 (o.f.mac.b2 : Int), .int .u8 (o.f.mac.b3 : Int), .int .u8 (o.f.mac.b4 : Int), .int .u8 (o.f.mac.b5 : Int)]) (below_keeps hb HK2.out (gsl HK2.out)) rfl uM rfl (by kernel_rfl))) rfl rfl hb
   ·intro a u_ vs hb hold hdep
    exact fa_still (ex_load _ ⟨b10, 0, none⟩ (.tmp 6) _ rfl (hold 6 (dlM (L := [39, 40, 41, 42, 43, 44]) (by decide))) (load_at (cs := o.f.cells.toList) (below_keeps hb HE2.out (gsl HE2.out)) rfl Tryz.underlying44 rfl (by kernel_rfl))) rfl rfl hb
  intro vs u3 hb hF
  have e0 : vs 0 = .pointer (some ⟨nb, 0, none⟩) := (hF 0 (by decide)).is rfl
  have e1 : vs 1 = .pointer (some ⟨nb, 0, none⟩) := (hF 1 (by decide)).is rfl
  have e2 : vs 2 = .pointer (some ⟨nb, 1, none⟩) := (hF 2 (by decide)).is rfl
  have e3 : vs 3 = .map (some bm) := (hF 3 (by decide)).is rfl
  have e4 : vs 4 = o.f.mac.v := (hF 4 (by decide)).is rfl
  have e5 : vs 5 = .agg o.f.cells := (hF 5 (by decide)).is rfl
  clear hF
  simp only [List.drop_succ_cons, List.drop_zero, puts, List.range, List.range.loop, List.foldr, if_true, List.getD_cons_zero, List.getD_cons_succ, e0, e1, e2, e3, e4, e5, Act.put, List.setIfInBounds_toArray, List.set_cons_zero, List.set_cons_succ]
  clear e0 e1 e2 e3 e4 e5
  obtain ⟨w', hr, hm', ht'⟩ := (HMU2.out.kept (hb.block _ HLU2.out.2)).store HLE.out (k := o.f.mac) HOK.out o.f
  have HR := hid hr
  have hch : Chg (fun b => b = bm) w w' := ((Chg.of_below HB02.out).trans (Chg.of_below hb)).trans (turned_chg ht')
  have HFIN : Hid (BdF w' nb bm room (putK Fd.mac L o.f)) := by
   have hrow : w'.heap[nb]? = _ := ((turned_chg ht').block nb (Nat.lt_of_lt_of_le HLU2.out.1 hb.size) HBU2.out.ne).trans ((hb.block _ HLU2.out.1).trans HRU2.out)
   refine ⟨hrow, hm'.congr (len_put _).symm (fun y => (lk_put HBU2.out.nod _ _).symm), HBU2.out.nod.put _, ⟨?_, HBU2.out.le.2⟩, HBU2.out.ne⟩
   rw [len_put]
   have := HBU2.out.le.1
   rcases HPL.out with h1 | h1
   ·rw [h1]; simpa using this
   ·split <;> omega
  have HCH := hid hch
  clear hb hr hm' ht' hch
  refine wpList_update_run _ rfl _ _ _ _ rfl _ _ _ rfl rfl rfl HR.out ?_
  go_wp2_with fail
  go_ret
  exact ⟨rfl, ⟨fun _ => HFIN.out, fun h => absurd rfl h⟩, HCH.out⟩
 ·have q : (x == 0) = false := by simpa using hx
  have HN := hid hx
  clear hx HX
  go_wp2_with fail
  go_ret
  exact ⟨rfl, ⟨fun h => absurd h HN.out, fun _ => HBU2.out⟩, Chg.of_below HB02.out⟩
end Go.Proofs.YtpdnnikkaojnkaaGreat.Rt
