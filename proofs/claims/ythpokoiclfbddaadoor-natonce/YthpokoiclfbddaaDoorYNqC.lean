import Derived.Test.YthpokoiclfbddaaDoorYNqB
import Derived.Shelf.Lay
import Derived.Shelf.Bytes.SlClone
import Derived.Ground.SlbCloneProg
namespace Go.Proofs.YthpokoiclfbddaaDoor.Nq
open Go.Proofs.YthpokoiclfbddaaDoor Go.ChangeShapes Go.WideShapes Go.ChangeAt Go.RowKit Go.Maps Fl
open Go.Proofs.YthpokoiclfbddaaDoor.N hiding But But.set But.of_below But.refl But.trans But.below But.drew wpList_ld
open Go.Shelf
set_option maxHeartbeats 4000000
set_option maxRecDepth 100000
shelf_lay SlLaysK.n4 Slk 4 at Tryd as Tryd.layCl

/-- A copy of one's own. -/
theorem clone_any (v : Value) (L : List Nat) (w : World) (hv : SeesB w v L) (hl : L.length ≤ 140737488355328) :
    Calls Tryd.prog 35 #[v] w fun e w' => ∃ v', e = .returned v' ∧ OwnB w' w.heap.size v' L ∧ Below w.heap.size w w' := by
  obtain ⟨ao, cap, rfl, h1, h2, h3⟩ := hv
  cases ao with
  | none =>
    have hL : L = [] := by
      rcases L with _ | ⟨x, L⟩
      · rfl
      · obtain ⟨_, _, hc, _⟩ := h3 0 (by simp); cases hc
    subst hL
    have hcon := Any.bytes_Clone_nil Tryd.layCl 0 cap w
    change Calls Tryd.prog 35 _ _ _ at hcon
    refine hcon.mono fun e w' ⟨he, hw⟩ => ?_
    subst hw
    exact ⟨_, he, ownB_nil _ _, Below.refl _ _⟩
  | some a =>
    have hcon := Any.bytes_Clone_at Tryd.layCl a L.length cap (L.map fun (x : Nat) => (x : Int)) w (by simp) hl (fun i hi => by
      obtain ⟨g, off, ha, hg, hc, hb⟩ := h3 i hi
      injection ha with ha
      subst ha
      rw [Addr.add_mid, hc]
      simp [hi])
    change Calls Tryd.prog 35 _ _ _ at hcon
    refine hcon.mono fun e w' ⟨v', he, ho, _, hb⟩ => ⟨v', he, ?_, hb⟩
    have e1 : (L.map fun (x : Nat) => (x : Int)).map (Value.int .u8) = bs L := by simp [bs]
    rw [e1] at ho
    exact ho

/-! ### of one kind -/
def kindT (f t : Tu) : Bool := decide (f.p = t.p) && (decide (t.p ≠ 1) || decide (t.sp = t.dp))
theorem isOfOneKind_any (f t : Tu) (w : World) :
    Calls Tryd.prog 34 #[.agg f.cells, .agg t.cells] w fun e w' => e = .returned (.bool (kindT f t)) ∧ Below w.heap.size w w' := by
  obtain ⟨w0, hw0, hb0, r1, r2⟩ := box2 w f.cells t.cells 38 38
  obtain ⟨b, HB⟩ : ∃ b, Hid (b = w.heap.size) := ⟨_, rfl⟩
  have HW0 := hid hw0
  rw [← HB.out] at r1 r2
  obtain ⟨-, -, k2, -, -⟩ := ce_tuq r1
  obtain ⟨-, -, m2, m3, m4⟩ := ce_tuq r2
  have HB0 := hid hb0
  obtain ⟨r, HR⟩ : ∃ r, Hid (r = kindT f t) := ⟨_, rfl⟩
  have HK : Hid (r = (decide (f.p = t.p) && (decide (t.p ≠ 1) || decide (t.sp = t.dp)))) := HR.out
  rw [← HR.out]
  generalize f.cells = fc at *
  generalize t.cells = tc at *
  generalize f.p = fp at *
  generalize t.p = tp at *
  generalize t.sp = sp at *
  generalize t.dp = dp at *
  clear hw0 r1 r2 hb0 HR
  by_cases h1 : fp = tp
  · subst h1
    by_cases h2 : fp = 1
    · subst h2
      by_cases h3 : sp = dp
      · subst h3
        have HF : Hid (r = true) := by unfold Hid; rw [HK.out]; simp
        clear HK
        go_enter Tryd.func34, Tryd.ntmps34
        go_upto_region 1 with fail
        rw [← HW0.out, ← HB.out]
        go_wp2_with fail
        go_ret
        exact ⟨by rw [HF.out]; rfl, HB0.out⟩
      · have q3 : ((sp : Int) == (dp : Int)) = false := by simp; omega
        have HF : Hid (r = false) := by unfold Hid; rw [HK.out]; simp [h3]
        clear HK h3
        go_enter Tryd.func34, Tryd.ntmps34
        go_upto_region 1 with fail
        rw [← HW0.out, ← HB.out]
        go_wp2_with fail
        go_ret
        exact ⟨by rw [HF.out]; rfl, HB0.out⟩
    · have q2 : ((fp : Int) != 1) = true := by simp; omega
      have HF : Hid (r = true) := by unfold Hid; rw [HK.out]; simp [h2]
      clear HK h2
      go_enter Tryd.func34, Tryd.ntmps34
      go_upto_region 1 with fail
      rw [← HW0.out, ← HB.out]
      go_wp2_with fail
      go_ret
      exact ⟨by rw [HF.out]; rfl, HB0.out⟩
  · have q1 : ((fp : Int) == (tp : Int)) = false := by simp; omega
    have HF : Hid (r = false) := by unfold Hid; rw [HK.out]; simp [h1]
    clear HK h1
    go_enter Tryd.func34, Tryd.ntmps34
    go_upto_region 1 with fail
    rw [← HW0.out, ← HB.out]
    go_wp2_with fail
    go_ret
    exact ⟨by rw [HF.out]; rfl, HB0.out⟩

/-! ### a head under other addresses -/
def hdU (h : Hd) (s d : Nat) : Hd := { h with src := s, dst := d }
theorem hdU_ok {h : Hd} (hok : h.Ok) {s d : Nat} (hs : s < 4294967296) (hd : d < 4294967296) : (hdU h s d).Ok := ⟨hok.tos, hok.id, hok.off, hok.ttl, hok.proto, hs, hd⟩
theorem hd_one (h : Hd) (a : Option Addr) (n c : Nat) : (hdCells h (.slice a n c)).all (·.oneCell') = true := by simp [hdCells, Value.oneCell']
theorem own_slice {w : World} {B : Nat} {v : Value} {L : List Nat} (h : OwnB w B v L) : ∃ a n c, v = .slice a n c := by
  rcases h.2 with ⟨rfl, _⟩ | ⟨g, cap, cur, rfl, _⟩ <;> exact ⟨_, _, _, rfl⟩
theorem hd_ld {u : World} {n : Nat} {h : Hd} {vo : Value} {r : Nat × Nat} (hb : u.heap[n]? = some (.cells (hdCells h vo) 34 r)) : (Instr.loadAt 34 (.pointer (some ⟨n, 0, none⟩))).run Tryd.prog u = .ok (.agg (hdCells h vo)) u ∧ (loadVar 34 ⟨n, 0, none⟩).run Tryd.prog u = .ok (.agg (hdCells h vo)) u := by
  obtain ⟨fs, hu⟩ := und27
  exact ⟨load_at (cs := (hdCells h vo).toList) hb rfl hu rfl (by kernel_rfl), lv_at (cs := (hdCells h vo).toList) hb rfl hu rfl (by kernel_rfl)⟩
def zHdC : Array Value := #[.int .u8 0, .int .u16 0, .bool false, .bool false, .int .i64 0, .int .u8 0, .int .u8 0, .int .u32 0, .int .u32 0, .slice none 0 0]

theorem headUnder_any (h : Hd) (vo : Value) (s d : Nat) (w : World) (hvo : SeesB w vo h.opts) (hlo : h.opts.length ≤ 140737488355328) :
    Calls Tryd.prog 38 #[.agg (hdCells h vo), .int .u32 (s : Int), .int .u32 (d : Int)] w fun e w' => ∃ vo', e = .returned (.agg (hdCells (hdU h s d) vo')) ∧ OwnB w' w.heap.size vo' h.opts ∧ Below w.heap.size w w' := by
  obtain ⟨w0, hw0, hb0, r1, r2⟩ := box2 w (hdCells h vo) zHdC 34 34
  obtain ⟨b, HB⟩ : ∃ b, Hid (b = w.heap.size) := ⟨_, rfl⟩
  have HW0 := hid hw0
  rw [← HB.out] at r1 r2
  have hl2 := (Array.getElem?_eq_some_iff.1 r2).1
  have c7 : w0.cell? ⟨b, 7, none⟩ = some (.int .u32 (h.src : Int)) := by rw [cell_of_row _ _ _ _ _ _ r1]; rfl
  have c8 : w0.cell? ⟨b, 8, none⟩ = some (.int .u32 (h.dst : Int)) := by rw [cell_of_row _ _ _ _ _ _ r1]; rfl
  have c9 : w0.cell? ⟨b, 9, none⟩ = some vo := by rw [cell_of_row _ _ _ _ _ _ r1]; rfl
  have f7 : w0.frozen? ⟨b, 7, none⟩ = false := frozen_of_row _ _ _ _ _ r1
  have f8 : w0.frozen? ⟨b, 8, none⟩ = false := frozen_of_row _ _ _ _ _ r1
  obtain ⟨w1, HW1⟩ : ∃ w1, Hid (w1 = (w0.setCell ⟨b, 7, none⟩ (.int .u32 (s : Int))).setCell ⟨b, 8, none⟩ (.int .u32 (d : Int))) := ⟨_, rfl⟩
  have hbut : But b w0 w1 := by rw [HW1.out]; exact (But.set _ _ _ _).trans (But.set _ _ _ _)
  have hB1 : Below w.heap.size w w1 := hbut.below hb0 hb0.size (by rw [HB.out]; exact Nat.le_refl _)
  have k1 : w1.heap[b]? = some (.cells (hdCells (hdU h s d) vo) 34 (0, 0)) := by
    rw [HW1.out]
    simp only [World.setCell, Array.getElem?_modify, r1]
    simp [hdCells, hdU]
  have k2 : w1.heap[b + 1]? = some (.cells zHdC 34 (0, 0)) := (hbut.block (b + 1) hl2 (by omega)).trans r2
  have HCL := hid (clone_any vo h.opts w1 (hvo.below hB1) hlo)
  have HB1 := hid hB1
  have HS1 : Hid (w.heap.size ≤ w1.heap.size) := hB1.size
  have HKK : Hid (∀ u, Below w1.heap.size w1 u → u.heap[b]? = some (.cells (hdCells (hdU h s d) vo) 34 (0, 0)) ∧ u.heap[b + 1]? = some (.cells zHdC 34 (0, 0))) := fun u hu =>
    ⟨below_keeps hu k1 (Array.getElem?_eq_some_iff.1 k1).1, below_keeps hu k2 (Array.getElem?_eq_some_iff.1 k2).1⟩
  have n9 : w1.cell? ⟨b, 9, none⟩ = some vo := by rw [cell_of_row _ _ _ _ _ _ k1]; rfl
  have HBL : Hid (w.heap.size ≤ b ∧ b < w1.heap.size ∧ b + 1 < w1.heap.size) := by unfold Hid; have := HB.out; exact ⟨by omega, (Array.getElem?_eq_some_iff.1 k1).1, (Array.getElem?_eq_some_iff.1 k2).1⟩
  have HZ : Hid (#[.int .u8 0, .int .u16 0, .bool false, .bool false, .int .i64 0, .int .u8 0, .int .u8 0, .int .u32 0, .int .u32 0, .slice none 0 0] = zHdC) := rfl
  have hne : ¬ (8 : Nat) = 7 := by omega
  generalize hdCells h vo = hc at *
  clear hw0 r1 r2 hl2 hb0 hbut hB1 k1 k2 hlo
  go_enter Tryd.func38, Tryd.ntmps38
  go_upto_region 1 with fail
  rw [HZ.out, ← HW0.out, ← HB.out]
  go_upto_region 2 with fail
  rw [← HW1.out]
  clear c7 c8 c9 f7 f8
  go_wp2_with fail
  refine HCL.out.mono ?_
  rintro _ w2 ⟨_, rfl, ho2, hb2⟩
  obtain ⟨a', n', c', rfl⟩ := own_slice ho2
  obtain ⟨vo', HVO⟩ : ∃ v, Hid (v = Value.slice a' n' c') := ⟨_, rfl⟩
  have k := (HKK.out w2 hb2)
  have c9 : w2.cell? ⟨b, 9, none⟩ = some vo := by rw [cell_of_row _ _ _ _ _ _ k.1]; rfl
  have f9 : w2.frozen? ⟨b, 9, none⟩ = false := frozen_of_row _ _ _ _ _ k.1
  obtain ⟨w3, HW3⟩ : ∃ w3, Hid (w3 = w2.setCell ⟨b, 9, none⟩ (.slice a' n' c')) := ⟨_, rfl⟩
  have hbut3 : But b w2 w3 := by rw [HW3.out]; exact But.set _ _ _ _
  have k3 : w3.heap[b]? = some (.cells (hdCells (hdU h s d) vo') 34 (0, 0)) := by
    rw [HW3.out]
    simp only [World.setCell, Array.getElem?_modify, k.1, HVO.out]
    simp [hdCells, hdU]
  have k4 : w3.heap[b + 1]? = some (.cells zHdC 34 (0, 0)) := (hbut3.block (b + 1) (Nat.lt_of_lt_of_le HBL.out.2.2 hb2.size) (by omega)).trans k.2
  have hB2 : Below w.heap.size w w2 := HB1.out.trans (hb2.mono HS1.out)
  have HB3 := hid (hbut3.below hB2 hB2.size HBL.out.1)
  rw [← HVO.out] at ho2
  have ho3 : OwnB w3 w1.heap.size vo' h.opts := Me.row_keeps (S := fun k => k = b) ho2 ⟨hbut3.os, hbut3.tape, hbut3.output, hbut3.size, hbut3.block⟩ fun k hk e => by
    have := (World.ownsRow.lt ho2 k hk).1
    have := HBL.out.2.1
    omega
  have HO3 := hid ho3
  have HL3 := hid (hd_ld k3).1
  have HK4 := hid k4
  have HONE : Hid ((hdCells (hdU h s d) vo').all (·.oneCell') = true) := by rw [HVO.out]; exact hd_one _ _ _ _
  have HFIN : Hid (∀ u, But (b + 1) w3 u → OwnB u w.heap.size vo' h.opts ∧ Below w.heap.size w u) := fun u hu => by
    refine ⟨?_, hu.below HB3.out HB3.out.size (by have := HBL.out.1; omega)⟩
    have := Me.row_keeps (S := fun k => k = b + 1) HO3.out ⟨hu.os, hu.tape, hu.output, hu.size, hu.block⟩ fun k hk e => by
      have := (World.ownsRow.lt HO3.out k hk).1
      have := HBL.out.2.2
      omega
    exact Me.row_low this HS1.out
  clear ho2 hb2 k hbut3 k3 k4 hB2 ho3 HCL
  go_upto_region 3 with fail
  rw [← HW3.out]
  clear c9 f9
  go_wp2_with (first | (refine wpList_ld 34 ⟨b, 0, none⟩ (.tmp 3) rfl rfl HL3.out rfl ?_) | (refine wpList_st rfl 34 (.tmp 6) (.tmp 15) rfl (b + 1) (hdCells (hdU h s d) vo') rfl rfl _ zHdC HK4.out (by kernel_rfl) rfl HONE.out ?_; intro w4 hw4 hbut4) | fail)
  have hlv := (hd_ld hw4).2
  have HF := hid (HFIN.out w4 hbut4)
  refine bodyPost_ret (v := .agg (hdCells (hdU h s d) vo')) (by simp [results, Tryd.results38, asAddr, Act.put, hlv]) rfl ?_
  exact ⟨vo', rfl, HF.out⟩
end Go.Proofs.YthpokoiclfbddaaDoor.Nq
