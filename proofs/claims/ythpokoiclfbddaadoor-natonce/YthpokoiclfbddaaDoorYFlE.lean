import Derived.Test.YthpokoiclfbddaaDoorYFlD
namespace Go.Proofs.YthpokoiclfbddaaDoor.Fl
open Go.Proofs.YthpokoiclfbddaaDoor Go.ChangeShapes Go.WideShapes Go.ChangeAt Go.RowKit Go.Maps N
set_option maxHeartbeats 4000000
set_option maxRecDepth 100000

theorem portsD_any (s d : Nat) (w : World) : Calls Tryd.prog 102 #[.agg #[.int .u16 (s : Int), .int .u16 (d : Int)]] w fun e w' => e = .returned (.tuple #[.int .u16 (s : Int), .int .u16 (d : Int)]) ∧ Below w.heap.size w w' := by
  go_enter Tryd.func102, Tryd.ntmps102
  go_wp2_with fail
  go_region
  go_wp2_with fail
  refine bodyPost_ret (results_tmp2 Tryd.results102 _ _ _) rfl ?_
  exact ⟨rfl, below_drew ((Below.refl _ _).alloc (Nat.le_refl _) _)⟩
theorem portsE_any (n : Nat) (r : Bool) (w : World) : Calls Tryd.prog 105 #[.agg #[.int .u16 (n : Int), .bool r]] w fun e w' => e = .returned (.tuple #[.int .u16 (n : Int), .int .u16 (n : Int)]) ∧ Below w.heap.size w w' := by
  go_enter Tryd.func105, Tryd.ntmps105
  go_wp2_with fail
  go_region
  go_wp2_with fail
  refine bodyPost_ret (results_tmp2 Tryd.results105 _ _ _) rfl ?_
  exact ⟨rfl, below_drew ((Below.refl _ _).alloc (Nat.le_refl _) _)⟩
theorem portsS_any (s d f : Nat) (w : World) : Calls Tryd.prog 104 #[.agg #[.int .u16 (s : Int), .int .u16 (d : Int), .int .u8 (f : Int)]] w fun e w' => e = .returned (.tuple #[.int .u16 (s : Int), .int .u16 (d : Int)]) ∧ Below w.heap.size w w' := by
  go_enter Tryd.func104, Tryd.ntmps104
  go_wp2_with fail
  go_region
  go_wp2_with fail
  refine bodyPost_ret (results_tmp2 Tryd.results104 _ _ _) rfl ?_
  exact ⟨rfl, below_drew ((Below.refl _ _).alloc (Nat.le_refl _) _)⟩

/-! ### structs in memory -/
theorem load_at {w : World} {b off : Nat} {row : Array Value} {T ty : TypeId} {cs : List Value} {d : TypeDesc} {r : Nat × Nat} (h : w.heap[b]? = some (.cells row T r)) (hp : (row.toList.drop off).take cs.length = cs) (hu : Tryd.prog.underlying ty = some d) (hd : d.isRow = true) (hi : (Tryd.prog.info? ty).map (·.size) = some cs.length) :
    (Instr.loadAt ty (.pointer (some ⟨b, off, none⟩))).run Tryd.prog w = .ok (.agg cs.toArray) w :=
  run_loadAt_mid w b off ty cs d (fun j v hv => by
    rw [cell_of_row _ _ _ _ _ _ h]
    rw [← hp, List.getElem?_take] at hv
    split at hv
    · rw [List.getElem?_drop] at hv
      simpa using hv
    · cases hv) hu hd hi
theorem lv_at {w : World} {b off : Nat} {row : Array Value} {T ty : TypeId} {cs : List Value} {d : TypeDesc} {r : Nat × Nat} (h : w.heap[b]? = some (.cells row T r)) (hp : (row.toList.drop off).take cs.length = cs) (hu : Tryd.prog.underlying ty = some d) (hd : d.isRow = true) (hi : (Tryd.prog.info? ty).map (·.size) = some cs.length) :
    (loadVar ty ⟨b, off, none⟩).run Tryd.prog w = .ok (.agg cs.toArray) w :=
  run_loadVar_mid w b off ty cs d (fun j v hv => by
    rw [cell_of_row _ _ _ _ _ _ h]
    rw [← hp, List.getElem?_take] at hv
    split at hv
    · rw [List.getElem?_drop] at hv
      simpa using hv
    · cases hv) hu hd hi
theorem isTu : ∃ d, Tryd.prog.underlying 38 = some d ∧ d.isRow = true := ⟨_, Tryd.underlying38, rfl⟩
theorem load_tu {u : World} {b : Nat} {t : Tu} {r : Nat × Nat} (h : u.heap[b]? = some (.cells t.cells 38 r)) : (Instr.loadAt 38 (.pointer (some ⟨b, 0, none⟩))).run Tryd.prog u = .ok (.agg t.cells) u := by
  obtain ⟨d, hd1, hd2⟩ := isTu
  exact load_at (cs := t.cells.toList) h rfl hd1 hd2 (by kernel_rfl)
theorem lv_tu {u : World} {b : Nat} {t : Tu} {r : Nat × Nat} (h : u.heap[b]? = some (.cells t.cells 38 r)) : (loadVar 38 ⟨b, 0, none⟩).run Tryd.prog u = .ok (.agg t.cells) u := by
  obtain ⟨d, hd1, hd2⟩ := isTu
  exact lv_at (cs := t.cells.toList) h rfl hd1 hd2 (by kernel_rfl)
theorem load_th {u : World} {b : Nat} {f : Fw} {T : TypeId} {r : Nat × Nat} (h : u.heap[b]? = some (.cells f.cells T r)) : (Instr.loadAt 38 (.pointer (some ⟨b, 0, none⟩))).run Tryd.prog u = .ok (.agg f.th.cells) u := by
  obtain ⟨d, hd1, hd2⟩ := isTu
  exact load_at (cs := f.th.cells.toList) h rfl hd1 hd2 (by kernel_rfl)
theorem load_bk {u : World} {b : Nat} {f : Fw} {T : TypeId} {r : Nat × Nat} (h : u.heap[b]? = some (.cells f.cells T r)) : (Instr.loadAt 38 (.pointer (some ⟨b, 5, none⟩))).run Tryd.prog u = .ok (.agg f.bk.cells) u := by
  obtain ⟨d, hd1, hd2⟩ := isTu
  exact load_at (cs := f.bk.cells.toList) h rfl hd1 hd2 (by kernel_rfl)

theorem ce_hd {w : World} {b : Nat} {h : Hd} {vo : Value} {T : TypeId} {r : Nat × Nat} (hr : w.heap[b]? = some (.cells (hdCells h vo) T r)) : w.cell? ⟨b, 6, none⟩ = some (.int .u8 (h.proto : Int)) ∧ w.cell? ⟨b, 7, none⟩ = some (.int .u32 (h.src : Int)) ∧ w.cell? ⟨b, 8, none⟩ = some (.int .u32 (h.dst : Int)) := by
  refine ⟨?_, ?_, ?_⟩ <;> (rw [cell_of_row _ _ _ _ _ _ hr]; rfl)
theorem zTu_cells : (#[.int .u32 0, .int .u32 0, .int .u8 0, .int .u16 0, .int .u16 0] : Array Value) = zTu.cells := rfl
theorem zFw_cells : (#[.int .u32 0, .int .u32 0, .int .u8 0, .int .u16 0, .int .u16 0, .int .u32 0, .int .u32 0, .int .u8 0, .int .u16 0, .int .u16 0, .int .i64 0, .int .i64 0] : Array Value) = zFw.cells := rfl

/-- A packet's tuple. -/
theorem tupleOf_any (h : Hd) (vo : Value) (c : Ct) (w : World) :
    Calls Tryd.prog 45 #[.agg (hdCells h vo), c.v] w fun e w' => e = .returned (.agg (tupC h c).cells) ∧ Below w.heap.size w w' := by
  obtain ⟨w0, HW0⟩ : ∃ w0, Hid (w0 = (w.alloc (.cells (hdCells h vo) 34)).alloc (.cells #[.int .u32 0, .int .u32 0, .int .u8 0, .int .u16 0, .int .u16 0] 38)) := ⟨_, rfl⟩
  have hba : Below w.heap.size w (w.alloc (.cells (hdCells h vo) 34)) := (Below.refl _ _).alloc (Nat.le_refl _) _
  have hb0 : Below w.heap.size w w0 := by rw [HW0.out]; exact hba.trans ((Below.refl _ _).alloc (by simp) _)
  obtain ⟨b, HB⟩ : ∃ b, Hid (b = w.heap.size) := ⟨_, rfl⟩
  have r3 : w0.heap[b]? = some (.cells (hdCells h vo) 34 (0, 0)) := by
    rw [HW0.out, HB.out]
    exact below_keeps (B := (w.alloc (.cells (hdCells h vo) 34)).heap.size) ((Below.refl _ _).alloc (Nat.le_refl _) _) (heap_alloc_new w _) (by simp)
  have r4 : w0.heap[b + 1]? = some (.cells zTu.cells 38 (0, 0)) := by
    have := heap_alloc_new (w.alloc (.cells (hdCells h vo) 34)) (.cells #[.int .u32 0, .int .u32 0, .int .u8 0, .int .u16 0, .int .u16 0] 38)
    rw [World.size_alloc] at this
    rw [HW0.out, HB.out]; exact this
  have hbs : b + 1 < w0.heap.size := (Array.getElem?_eq_some_iff.1 r4).1
  have HKC : Hid (∀ u, Below w0.heap.size w0 u → u.cell? ⟨b, 6, none⟩ = some (.int .u8 (h.proto : Int)) ∧ u.cell? ⟨b, 7, none⟩ = some (.int .u32 (h.src : Int)) ∧ u.cell? ⟨b, 8, none⟩ = some (.int .u32 (h.dst : Int)) ∧ u.heap[b + 1]? = some (.cells zTu.cells 38 (0, 0))) := fun u hu => by
    obtain ⟨k6, k7, k8⟩ := ce_hd (below_keeps hu r3 (by omega))
    exact ⟨k6, k7, k8, below_keeps hu r4 hbs⟩
  have HB0 := hid hb0
  have hsz : w.heap.size ≤ w0.heap.size := hb0.size
  have HBB : Hid (w.heap.size ≤ b + 1) := by unfold Hid; rw [HB.out]; omega
  have HT : Hid (tupC h c = ⟨h.src, h.dst, h.proto, c.src, c.dst⟩) := rfl
  generalize tupC h c = t at *
  clear hba hb0 r3 r4 hbs
  generalize hdCells h vo = hc at *
  rcases c with ⟨s, d⟩ | ⟨n, r⟩ | ⟨s, d, f⟩
  case' dg =>
    rw [show (Ct.dg s d).v = .iface 148 (.agg #[.int .u16 (s : Int), .int .u16 (d : Int)]) from rfl]
    have HP := hid (portsD_any s d w0)
    have hm : ∀ u : World, (method 273 148 (.agg #[.int .u16 (s : Int), .int .u16 (d : Int)]) "weft/flow.ports").run Tryd.prog u = .ok (102, .agg #[.int .u16 (s : Int), .int .u16 (d : Int)]) u := fun u => by kernel_rfl
  case' ec =>
    rw [show (Ct.ec n r).v = .iface 156 (.agg #[.int .u16 (n : Int), .bool r]) from rfl]
    have HP := hid (portsE_any n r w0)
    have hm : ∀ u : World, (method 273 156 (.agg #[.int .u16 (n : Int), .bool r]) "weft/flow.ports").run Tryd.prog u = .ok (105, .agg #[.int .u16 (n : Int), .bool r]) u := fun u => by kernel_rfl
  case' sg =>
    rw [show (Ct.sg s d f).v = .iface 151 (.agg #[.int .u16 (s : Int), .int .u16 (d : Int), .int .u8 (f : Int)]) from rfl]
    have HP := hid (portsS_any s d f w0)
    have hm : ∀ u : World, (method 273 151 (.agg #[.int .u16 (s : Int), .int .u16 (d : Int), .int .u8 (f : Int)]) "weft/flow.ports").run Tryd.prog u = .ok (104, .agg #[.int .u16 (s : Int), .int .u16 (d : Int), .int .u8 (f : Int)]) u := fun u => by kernel_rfl
  all_goals (
    go_enter Tryd.func45, Tryd.ntmps45
    go_upto_region 1 with fail
    rw [← HW0.out, ← HB.out]
    go_wp2_with fail
    refine HP.out.mono ?_
    rintro _ w1 ⟨rfl, hb1⟩
    obtain ⟨k6, k7, k8, kr⟩ := HKC.out w1 hb1
    have KR := hid kr
    have HB1 := hid (HB0.out.trans (hb1.mono hsz))
    have HS1 : Hid (w.heap.size ≤ w1.heap.size) := HB1.out.size
    clear hb1 kr
    go_wp2_with (first | (refine wpList_st rfl 38 (.tmp 4) (.tmp 20) rfl (b + 1) t.cells rfl (by rw [HT.out]; rfl) _ zTu.cells KR.out (by kernel_rfl) rfl t.one ?_; intro w2 hw2 hbut2) | fail)
    have hlv := lv_tu hw2
    refine bodyPost_ret (v := .agg t.cells) (by simp [results, Tryd.results45, asAddr, Act.put, hlv]) rfl ⟨rfl, hbut2.below HB1.out HS1.out HBB.out⟩)
end Go.Proofs.YthpokoiclfbddaaDoor.Fl
