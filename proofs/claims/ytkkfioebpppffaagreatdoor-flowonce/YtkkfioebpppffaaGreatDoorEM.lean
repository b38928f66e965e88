import Derived.Test.YtkkfioebpppffaaGreatDoorYFlV
import Derived.Deep.RegionLaw
namespace Go.Proofs.YtkkfioebpppffaaGreatDoor.Fl
open Go.Proofs.YtkkfioebpppffaaGreatDoor Go.ChangeShapes Go.WideShapes Go.ChangeAt Go.RowKit Go.Maps N
set_option maxHeartbeats 8000000
set_option maxRecDepth 100000

theorem But.refl' (g : Nat) (w : World) : But g w w := ⟨rfl, rfl, rfl, Nat.le_refl _, fun _ _ _ => rfl⟩
def mvQ (q : Raw) (y : Tu) (f : Nat) (now : Int) : Raw := (movP 1 q (mdH y) (mdB y f) now).2.2
theorem span_aft {now s : Int} (h1 : -1152921504606846976 ≤ now) (h2 : now ≤ 1152921504606847000) (h3 : 0 ≤ s) (h4 : s ≤ 432000) : Tm.aft now s = now + s := by
  unfold Tm.aft
  rw [if_neg (by omega), if_neg (by omega)]
theorem mv_one {q : Raw} {x bk y : Tu} {st st' f : Nat} {til now : Int} (o : One q x bk st til) (hy : y = x ∨ y = bk) (hp : y.p = 6) (hx : x.p = 6) (hok : y.Ok) (htu : tuN st f (decide (y = bk)) = (st', true)) (h1 : -1152921504606846976 ≤ now) (h2 : now ≤ 1152921504606847000) :
    movP 1 q (mdH y) (mdB y f) now = (⟨x, bk, st', now + spanF st' 6⟩, 0, mvQ q y f now) ∧ One (mvQ q y f now) x bk st' (now + spanF st' 6) := by
  have hc := rdC_made (.inl hp) hok f
  have hcc : mdC y f = .sg y.sp y.dp f := by unfold mdC; rw [if_pos hp]
  have hn : nxt st (mdC y f) (decide (y = bk)) = (st', true) := by rw [hcc]; exact htu
  obtain ⟨q', e1, e2⟩ := move_one (now := now) o hy hc (tup_made (fun h => by omega) f) (by rw [hn])
  rw [hn, hx, span_aft h1 h2 (spanF_in st' 6).1 (spanF_in st' 6).2] at e1 e2
  have e3 : mvQ q y f now = q' := by unfold mvQ; rw [e1]
  rw [e3]
  exact ⟨e1, e2⟩

end Go.Proofs.YtkkfioebpppffaaGreatDoor.Fl

namespace Go.Proofs.YtkkfioebpppffaaGreatDoor.Fl
open Go.Proofs.YtkkfioebpppffaaGreatDoor Go.ChangeShapes Go.WideShapes Go.ChangeAt Go.RowKit Go.Maps N
set_option maxHeartbeats 16000000
set_option maxRecDepth 100000

/-- Known values, and a packet that was made. -/
def FM (l : List Value) (i0 : Nat) (h : Hd) (B : List Nat) (i : Nat) (v : Value) (w : World) : Prop :=
  if i = i0 then ∃ ao n cap, v = .agg (pkCells h (.slice none 0 0) (.slice ao n cap)) ∧ SeesB w (.slice ao n cap) B else l[i]? = some v
section
variable {l : List Value} {i0 i : Nat} {h : Hd} {B : List Nat} {v : Value} {w w' : World}
theorem FM.keeps (hf : FM l i0 h B i v w) (hb : Below w.heap.size w w') : FM l i0 h B i v w' := by
  unfold FM at *
  split
  · rename_i e
    rw [if_pos e] at hf
    obtain ⟨ao, n, cap, e1, e2⟩ := hf
    exact ⟨ao, n, cap, e1, e2.below hb⟩
  · rename_i e
    rw [if_neg e] at hf
    exact hf
theorem FM.dep {a : Act} {t : Operand} {y : Value} (hf : a.eval t = v ∧ FM l i0 h B i v w) (hne : i ≠ i0) (hy : l[i]? = some y) : a.eval t = y := by
  have h2 := hf.2
  unfold FM at h2
  rw [if_neg hne, hy] at h2
  rw [hf.1]; exact (Option.some.inj h2).symm
theorem FM.is {y : Value} (hf : FM l i0 h B i v w) (hne : i ≠ i0) (hy : l[i]? = some y) : v = y := by
  unfold FM at hf
  rw [if_neg hne, hy] at hf
  exact (Option.some.inj hf).symm
theorem FM.made (hf : FM l i0 h B i v w) (he : i = i0) : ∃ ao n cap, v = .agg (pkCells h (.slice none 0 0) (.slice ao n cap)) ∧ SeesB w (.slice ao n cap) B := by
  unfold FM at hf
  rw [if_pos he] at hf
  exact hf
theorem fm_mk (hne : i ≠ i0) (hy : l[i]? = some v) : FM l i0 h B i v w := by
  unfold FM
  rw [if_neg hne]; exact hy
theorem fm_made {ao : Option Addr} {n cap : Nat} (he : i = i0) (hs : SeesB w (.slice ao n cap) B) : FM l i0 h B i (.agg (pkCells h (.slice none 0 0) (.slice ao n cap))) w := by
  unfold FM
  rw [if_pos he]; exact ⟨ao, n, cap, rfl, hs⟩
theorem fm_still {P : Program} {o : Oper} {a : Act} {W : World} {Q : Exit → Act → World → Prop} {t : Tmp} (hr : (execOp a.eval o).run P w = .ok (.value v) w) (hne : i ≠ i0) (ht : o.dst = some t) (hv : l[i]? = some v) (hW : Below W.heap.size W w) :
    o.wp P a w (fun a' w' => ∃ v', a' = a.put (some t) v' ∧ FM l i0 h B i v' w' ∧ Below W.heap.size W w' ∧ Below w.heap.size w w') Q :=
  wp_val hr (by rw [ht]; exact ⟨v, rfl, fm_mk hne hv, hW, Below.refl _ _⟩)
end

def tcp (t : Tu) : Tu := { t with p := 6 }
theorem tcp_cells (t : Tu) : t.cells.setIfInBounds 2 (.int .u8 6) = (tcp t).cells := rfl
theorem tcp_ok {t : Tu} (h : t.Ok) : (tcp t).Ok := ⟨h.s, h.d, by show 6 < 256; omega, h.sp, h.dp⟩
def i64C (L : List Int) : Array Value := (L.map fun x => Value.int .i64 x).toArray
theorem i64_cell {w : World} {b : Nat} {L : List Int} {T : TypeId} {r : Nat × Nat} (h : w.heap[b]? = some (.cells (i64C L) T r)) (j : Nat) (x : Int) (hx : L[j]? = some x) : w.cell? ⟨b, j, none⟩ = some (.int .i64 x) := by
  rw [cell_of_row _ _ _ _ _ _ h]
  simp [i64C, hx]
theorem i64_set (L : List Int) (j : Nat) (x : Int) : (i64C L).setIfInBounds j (.int .i64 x) = i64C (L.set j x) := by
  simp [i64C, List.map_set]

theorem back_any (t : Tu) (w : World) : Calls Tryz.prog 34 #[.agg t.cells] w fun e w' => e = .returned (.agg t.back.cells) ∧ Below w.heap.size w w' := by
  obtain ⟨w0, HW0⟩ : ∃ w0, Hid (w0 = (w.alloc (.cells t.cells 37)).alloc (.cells #[.int .u32 0, .int .u32 0, .int .u8 0, .int .u16 0, .int .u16 0] 37)) := ⟨_, rfl⟩
  obtain ⟨b, HB⟩ : ∃ b, Hid (b = w.heap.size) := ⟨_, rfl⟩
  have hba : Below w.heap.size w (w.alloc (.cells t.cells 37)) := (Below.refl _ _).alloc (Nat.le_refl _) _
  have hb0 : Below w.heap.size w w0 := by rw [HW0.out]; exact hba.trans ((Below.refl _ _).alloc (by simp) _)
  have r3 : w0.heap[b]? = some (.cells t.cells 37 (0, 0)) := by
    rw [HW0.out, HB.out]
    exact below_keeps (B := (w.alloc (.cells t.cells 37)).heap.size) ((Below.refl _ _).alloc (Nat.le_refl _) _) (heap_alloc_new w _) (by simp)
  have r4 : w0.heap[b + 1]? = some (.cells zTu.cells 37 (0, 0)) := by
    have := heap_alloc_new (w.alloc (.cells t.cells 37)) (.cells #[.int .u32 0, .int .u32 0, .int .u8 0, .int .u16 0, .int .u16 0] 37)
    rw [World.size_alloc] at this
    rw [HW0.out, HB.out]; exact this
  obtain ⟨k0, k1, k2, k3, k4⟩ : w0.cell? ⟨b, 0, none⟩ = some (.int .u32 (t.s : Int)) ∧ w0.cell? ⟨b, 1, none⟩ = some (.int .u32 (t.d : Int)) ∧ w0.cell? ⟨b, 2, none⟩ = some (.int .u8 (t.p : Int)) ∧ w0.cell? ⟨b, 3, none⟩ = some (.int .u16 (t.sp : Int)) ∧ w0.cell? ⟨b, 4, none⟩ = some (.int .u16 (t.dp : Int)) := by
    refine ⟨?_, ?_, ?_, ?_, ?_⟩ <;> (rw [cell_of_row _ _ _ _ _ _ r3]; rfl)
  have HB0 := hid hb0
  have R4 := hid r4
  have HGW : Hid (w.heap.size ≤ b + 1 ∧ w.heap.size ≤ w0.heap.size) := by unfold Hid; rw [HB.out]; exact ⟨by omega, hb0.size⟩
  obtain ⟨tb, HTB⟩ : ∃ tb, Hid (tb = t.back) := ⟨_, rfl⟩
  have hcs : Hid (tb.cells = #[.int .u32 (t.d : Int), .int .u32 (t.s : Int), .int .u8 (t.p : Int), .int .u16 (t.dp : Int), .int .u16 (t.sp : Int)]) := by rw [HTB.out]; rfl
  rw [← HTB.out]
  generalize t.cells = tc at *
  clear hba hb0 r3 r4
  go_enter Tryz.func34, Tryz.ntmps34
  go_upto_region 1 with fail
  rw [← HW0.out, ← HB.out]
  go_wp2_with (first | (refine wpList_st rfl 37 (.tmp 2) (.tmp 13) rfl (b + 1) tb.cells rfl (by rw [hcs.out]; rfl) _ zTu.cells R4.out (by kernel_rfl) rfl tb.one ?_; intro w2 hw2 hbut2) | fail)
  have hlv := lv_tu hw2
  refine bodyPost_ret (v := .agg tb.cells) (by simp [results, Tryz.results34, asAddr, Act.put, hlv]) rfl ⟨rfl, hbut2.below HB0.out HGW.out.2 HGW.out.1⟩
end Go.Proofs.YtkkfioebpppffaaGreatDoor.Fl
