import Derived.Test.YthpokoiclfbddaaDoorYNqO
import Derived.Test.YthpokoiclfbddaaDoorYVRO
namespace Go.Proofs.YthpokoiclfbddaaDoor.Fl
open Go.Proofs.YthpokoiclfbddaaDoor Go.ChangeShapes Go.WideShapes Go.ChangeAt Go.RowKit
theorem But.refl (g : Nat) (w : World) : But g w w := ⟨rfl, rfl, rfl, Nat.le_refl _, fun _ _ _ => rfl⟩
theorem But.of_below {g : Nat} {w w' : World} (hb : Below w.heap.size w w') : But g w w' := ⟨hb.os, hb.tape, hb.output, hb.size, fun i hi _ => hb.block i hi⟩
end Go.Proofs.YthpokoiclfbddaaDoor.Fl
namespace Go.Proofs.YthpokoiclfbddaaDoor.Nq
open Go.Proofs.YthpokoiclfbddaaDoor Go.ChangeShapes Go.WideShapes Go.ChangeAt Go.RowKit Go.Maps Fl
open Go.Proofs.YthpokoiclfbddaaDoor.N hiding But But.set But.of_below But.refl But.trans But.below But.drew wpList_ld
set_option maxHeartbeats 4000000
set_option maxRecDepth 100000

/-! ### bytes -/
def p16 (X : List Nat) (o x : Nat) : List Nat := (X.set o (x / 256)).set (o + 1) (x % 256)
theorem p16_len (X : List Nat) (o x : Nat) : (p16 X o x).length = X.length := by simp [p16]
theorem p16_lt {X : List Nat} (h : ∀ x ∈ X, x < 256) {o x : Nat} (hx : x < 65536) : ∀ y ∈ p16 X o x, y < 256 := fun y hy => by
  unfold p16 at hy
  rcases List.mem_or_eq_of_mem_set hy with hy | rfl
  · rcases List.mem_or_eq_of_mem_set hy with hy | rfl
    · exact h y hy
    · omega
  · omega
theorem byt_p16 {X : List Nat} {o x i : Nat} (h0 : i ≠ o) (h1 : i ≠ o + 1) : byt (p16 X o x) i = byt X i := by
  unfold byt p16
  rw [List.getD_eq_getElem?_getD, List.getD_eq_getElem?_getD, List.getElem?_set_ne (by omega), List.getElem?_set_ne (by omega)]
theorem byt_p16a {X : List Nat} {o x : Nat} (h : o + 2 ≤ X.length) : byt (p16 X o x) o = x / 256 := by
  unfold byt p16
  rw [List.getD_eq_getElem?_getD, List.getElem?_set_ne (by omega), List.getElem?_set_self (by omega)]; rfl
theorem byt_p16b {X : List Nat} {o x : Nat} (h : o + 2 ≤ X.length) : byt (p16 X o x) (o + 1) = x % 256 := by
  unfold byt p16
  rw [List.getD_eq_getElem?_getD, List.getElem?_set_self (by simp; omega)]; rfl
theorem w16_p16 {X : List Nat} {o x : Nat} (h : o + 2 ≤ X.length) : w16 (p16 X o x) o = x := by
  unfold w16
  rw [byt_p16a h, byt_p16b h]; omega
theorem w16_p16_ne {X : List Nat} {o x i : Nat} (h : i + 2 ≤ o ∨ o + 2 ≤ i) : w16 (p16 X o x) i = w16 X i := by
  unfold w16
  rw [byt_p16 (by omega) (by omega), byt_p16 (by omega) (by omega)]
theorem list_byt {X Y : List Nat} (hl : X.length = Y.length) (h : ∀ i, i < X.length → byt X i = byt Y i) : X = Y := by
  refine List.ext_getElem hl fun i h1 h2 => ?_
  have := h i h1
  unfold byt at this
  rw [List.getD_eq_getElem?_getD, List.getD_eq_getElem?_getD, List.getElem?_eq_getElem h1, List.getElem?_eq_getElem h2] at this
  exact this
theorem p16_self {X : List Nat} (hx : ∀ x ∈ X, x < 256) {o : Nat} (h : o + 2 ≤ X.length) : p16 X o (w16 X o) = X := by
  refine list_byt (p16_len _ _ _) fun i hi => ?_
  have h1 := byt_lt hx (o + 1)
  by_cases e0 : i = o
  · subst e0; rw [byt_p16a h]; unfold w16; omega
  · by_cases e1 : i = o + 1
    · subst e1; rw [byt_p16b h]; unfold w16; omega
    · exact byt_p16 e0 e1
theorem p16_p16 (X : List Nat) (o a b : Nat) : p16 (p16 X o a) o b = p16 X o b := by
  refine list_byt (by simp [p16]) fun i hi => ?_
  rw [p16_len, p16_len] at hi
  by_cases h : o + 2 ≤ X.length
  · by_cases e0 : i = o
    · subst e0; rw [byt_p16a (by rw [p16_len]; exact h), byt_p16a h]
    · by_cases e1 : i = o + 1
      · subst e1; rw [byt_p16b (by rw [p16_len]; exact h), byt_p16b h]
      · rw [byt_p16 e0 e1, byt_p16 e0 e1, byt_p16 e0 e1]
  · by_cases e0 : i = o
    · subst e0
      have e : ∀ Z : List Nat, Z.length = X.length → ∀ x, byt (p16 Z i x) i = x / 256 := fun Z hZ x => by
        unfold byt p16
        rw [List.getD_eq_getElem?_getD, List.getElem?_set_ne (by omega), List.getElem?_set_self (by omega)]; rfl
      rw [e _ (p16_len _ _ _), e _ rfl]
    · have e1 : i ≠ o + 1 := by omega
      rw [byt_p16 e0 e1, byt_p16 e0 e1, byt_p16 e0 e1]
theorem p16_swap (X : List Nat) {o o2 a b : Nat} (h : o + 2 ≤ o2 ∨ o2 + 2 ≤ o) : p16 (p16 X o a) o2 b = p16 (p16 X o2 b) o a := by
  unfold p16
  rw [List.set_comm (l := (X.set o (a / 256)).set (o + 1) (a % 256)) _ _ (show o2 ≠ o2 + 1 by omega)]
  rw [List.set_comm _ _ (show o + 1 ≠ o2 + 1 by omega), List.set_comm _ _ (show o ≠ o2 + 1 by omega)]
  rw [List.set_comm _ _ (show o + 1 ≠ o2 by omega), List.set_comm _ _ (show o ≠ o2 by omega)]
  rw [List.set_comm _ _ (show o2 + 1 ≠ o2 by omega)]

/-! ### a block whose front holds bytes -/
def Bk (w : World) (g c : Nat) (X : List Nat) : Prop := ∃ cur, w.heap[g]? = some (.cells cur 5 (0, 0)) ∧ cur.size = c ∧ X.length ≤ c ∧ c ≤ maxLen ∧ cur.toList.take X.length = bs X
section
variable {w w' : World} {g c : Nat} {X : List Nat}
theorem Bk.lt (h : Bk w g c X) : g < w.heap.size := by obtain ⟨cur, h1, _⟩ := h; exact (Array.getElem?_eq_some_iff.1 h1).1
theorem Bk.cell (h : Bk w g c X) {i : Nat} (hi : i < X.length) : w.cell? ⟨g, i, none⟩ = some (.int .u8 ((byt X i : Nat) : Int)) := by
  obtain ⟨cur, h1, h2, h3, h4, h5⟩ := h
  rw [cell_of_row _ _ _ _ _ _ h1, ← Array.getElem?_toList]
  have : (cur.toList.take X.length)[i]? = cur.toList[i]? := by rw [List.getElem?_take, if_pos hi]
  rw [← this, h5]
  simp [bs, byt, hi]
theorem Bk.free (h : Bk w g c X) (i : Nat) : w.frozen? ⟨g, i, none⟩ = false := by obtain ⟨cur, h1, _⟩ := h; exact frozen_of_row _ _ _ _ _ h1
theorem Bk.set (h : Bk w g c X) {i : Nat} (x : Nat) : Bk (w.setCell ⟨g, i, none⟩ (.int .u8 (x : Int))) g c (X.set i x) := by
  obtain ⟨cur, h1, h2, h3, h4, h5⟩ := h
  refine ⟨cur.setIfInBounds i (.int .u8 (x : Int)), ?_, by simpa using h2, by simpa using h3, h4, ?_⟩
  · simp only [World.setCell, Array.getElem?_modify, h1]
    simp
  · rw [Array.toList_setIfInBounds, List.length_set, List.take_set, h5]
    simp [bs, List.map_set]
theorem Bk.at (h : Bk w g c X) (e : w'.heap[g]? = w.heap[g]?) : Bk w' g c X := by obtain ⟨cur, h1, h2⟩ := h; exact ⟨cur, e.trans h1, h2⟩
theorem Bk.below (h : Bk w g c X) (hb : Below w.heap.size w w') : Bk w' g c X := h.at (hb.block g h.lt)
theorem Bk.sees (h : Bk w g c X) (hx : ∀ x ∈ X, x < 256) (o k c2 : Nat) (hk : o + k ≤ X.length) (hc : k ≤ c2) (hcm : c2 ≤ maxLen) : SeesB w (.slice (some ⟨g, o, none⟩) k c2) ((X.drop o).take k) := by
  have hl : ((X.drop o).take k).length = k := by simp; omega
  refine ⟨some ⟨g, o, none⟩, c2, by rw [hl], ⟨by omega, fun h => by cases h⟩, hcm, fun j hj => ⟨g, o, rfl, h.lt, ?_, ?_⟩⟩
  · have hj' : o + j < X.length := by omega
    rw [h.cell hj']
    have e : byt X (o + j) = ((X.drop o).take k)[j] := by
      rw [List.getElem_take, List.getElem_drop]; unfold byt; rw [List.getD_eq_getElem?_getD, List.getElem?_eq_getElem hj']; rfl
    rw [e]
  · rw [List.getElem_take, List.getElem_drop]; exact hx _ (List.getElem_mem _)
theorem Bk.of {B : Nat} {n : Nat} (h : OwnB w B (.slice (some ⟨g, 0, none⟩) n c) X) : Bk w g c X ∧ B ≤ g ∧ n = X.length := by
  rcases h.2 with ⟨h0, _⟩ | ⟨g', cap, cur, h0, hb, hg, h1, h2, h3, h4⟩
  · cases h0
  · simp only [Value.slice.injEq, Option.some.injEq, Addr.mk.injEq] at h0
    obtain ⟨⟨rfl, _⟩, rfl, rfl⟩ := h0
    exact ⟨⟨cur, hg, by simpa using h3, h1, h2, by simpa using h4⟩, hb, rfl⟩
theorem Bk.own (h : Bk w g c X) {B : Nat} (hB : B ≤ g) : OwnB w B (.slice (some ⟨g, 0, none⟩) X.length c) X := by
  obtain ⟨cur, h1, h2, h3, h4, h5⟩ := h
  exact ⟨by simp [bs], .inr ⟨g, c, cur, rfl, hB, h1, h3, h4, by simpa using h2, by simpa using h5⟩⟩
end
theorem but_below {g : Nat} {w w' w2 : World} (h : But g w w') (hb : Below w'.heap.size w' w2) : But g w w2 := h.trans (But.of_below hb)
theorem cutB (g o n c2 m : Nat) (i : Int) (hi : i = m) (hm : m ≤ n) (hmc : m < c2) (u : World) : (Instr.sliceAt 32 (.slice (some ⟨g, o, none⟩) n c2) (some (.int .i64 i)) none none).run Tryd.prog u = .ok (.slice (some ⟨g, o + m, none⟩) (n - m) (c2 - m)) u := cut_at g o n c2 m i hi hm hmc u

theorem write16_any (g o n c2 c x : Nat) (X : List Nat) (w : World) (hB : Bk w g c X) (hn : 2 ≤ n) (ho : o + 2 ≤ X.length) (hx : x < 65536) :
    Calls Tryd.prog 58 #[.slice (some ⟨g, o, none⟩) n c2, .int .u16 (x : Int)] w fun e w' => e = .returned (.tuple #[]) ∧ Bk w' g c (p16 X o x) ∧ But g w w' := by
  have c0 := hB.cell (i := o) (by omega)
  have c1 := hB.cell (i := o + 1) (by omega)
  have f0 := hB.free o
  have f1 := hB.free (o + 1)
  have HR : Hid (Bk ((w.setCell ⟨g, o, none⟩ (.int .u8 ((x / 256 : Nat) : Int))).setCell ⟨g, o + 1, none⟩ (.int .u8 ((x % 256 : Nat) : Int))) g c (p16 X o x) ∧ But g w ((w.setCell ⟨g, o, none⟩ (.int .u8 ((x / 256 : Nat) : Int))).setCell ⟨g, o + 1, none⟩ (.int .u8 ((x % 256 : Nat) : Int)))) := ⟨(hB.set _).set _, (But.set _ _ _ _).trans (But.set _ _ _ _)⟩
  generalize byt X o = y0 at c0
  generalize byt X (o + 1) = y1 at c1
  have hne : ¬ o + 1 = o := by omega
  have hne' : ¬ o = o + 1 := by omega
  clear hB
  go_enter Tryd.func58, Tryd.ntmps58
  go_wp2_with fail
  have e0 : ((x / 256 : Nat) : Int) = (x : Int) / 256 := by omega
  have e1 : ((x % 256 : Nat) : Int) = (x : Int) % 256 := by omega
  rw [e0, e1] at HR
  exact bodyPost_end (results_none Tryd.results58 _ _ _) rfl ⟨rfl, HR.out.1, HR.out.2⟩

theorem read16_any (g o n c2 c : Nat) (X : List Nat) (w : World) (hB : Bk w g c X) (hx : ∀ x ∈ X, x < 256) (hn : 2 ≤ n) (ho : o + 2 ≤ X.length) :
    Calls Tryd.prog 77 #[.slice (some ⟨g, o, none⟩) n c2] w fun e w' => e = .returned (.int .u16 ((w16 X o : Nat) : Int)) ∧ Below w.heap.size w w' := by
  have hc0 := hB.cell (i := o) (by omega)
  have hc1 := hB.cell (i := o + 1) (by omega)
  have hp := byt_lt hx o
  have hq := byt_lt hx (o + 1)
  have HR : Hid (bits .or .u16 ((byt X o * 256 : Nat) : Int) ((byt X (o + 1) : Nat) : Int) = ((w16 X o : Nat) : Int)) := or_u16 _ _ hp hq
  generalize byt X o = p at *
  generalize byt X (o + 1) = q at *
  generalize w16 X o = r at *
  have b0 : 0 < n := by omega
  have b1 : 1 < n := by omega
  clear hB
  go_enter Tryd.func77, Tryd.ntmps77
  go_wp2
  go_region
  go_wp2
  go_ret
  exact ⟨ret_int (by rw [← HR.out]; simp), below_drew (Below.refl _ _)⟩

/-! ### sums turned over -/
def tw (s o n : Nat) : Nat := if o = n then s else M.adj s o n
def ts (s : Nat) (P : List (Nat × Nat)) : Nat := P.foldl (fun s p => tw s p.1 p.2) s
theorem adj_lt (s o n : Nat) : M.adj s o n < 65536 := by unfold M.adj; omega
theorem tw_lt {s : Nat} (h : s < 65536) (o n : Nat) : tw s o n < 65536 := by
  unfold tw; split
  · exact h
  · exact adj_lt _ _ _
theorem ts_lt {s : Nat} (h : s < 65536) (P : List (Nat × Nat)) : ts s P < 65536 := by
  unfold ts
  induction P generalizing s with
  | nil => exact h
  | cons p P ih => exact ih (tw_lt h _ _)
theorem ts_snoc (s : Nat) (P : List (Nat × Nat)) (p : Nat × Nat) : ts s (P ++ [p]) = tw (ts s P) p.1 p.2 := by unfold ts; rw [List.foldl_append]; rfl

theorem turnWord_any (g o n c2 c x y : Nat) (X : List Nat) (w : World) (hB : Bk w g c X) (hX : ∀ x ∈ X, x < 256) (hn : 2 ≤ n) (ho : o + 2 ≤ X.length) (hx : x < 65536) (hy : y < 65536) :
    Calls Tryd.prog 59 #[.slice (some ⟨g, o, none⟩) n c2, .int .u16 (x : Int), .int .u16 (y : Int)] w fun e w' => e = .returned (.tuple #[]) ∧ Bk w' g c (p16 X o (tw (w16 X o) x y)) ∧ But g w w' := by
  by_cases he : x = y
  · subst he
    have q0 : ((x : Int) != (x : Int)) = false := by simp
    have HF : Hid (Bk w g c (p16 X o (tw (w16 X o) x x)) ∧ But g w w) := by
      unfold Hid tw; rw [if_pos rfl, p16_self hX ho]
      exact ⟨hB, But.refl _ _⟩
    clear hB hX hn ho
    go_enter Tryd.func59, Tryd.ntmps59
    go_wp2_with fail
    exact bodyPost_end (results_none Tryd.results59 _ _ _) rfl ⟨rfl, HF.out⟩
  · have q0 : ((x : Int) != (y : Int)) = true := by simp; omega
    have HRD := hid (read16_any g o n c2 c X w hB hX hn ho)
    have HADJ := hid (fun u => adjust_code (w16 X o) x y u (w16_lt hX o) hx hy)
    have HWR : Hid (∀ u, Below w.heap.size w u → Calls Tryd.prog 58 #[.slice (some ⟨g, o, none⟩) n c2, .int .u16 ((M.adj (w16 X o) x y : Nat) : Int)] u fun e w' => e = .returned (.tuple #[]) ∧ Bk w' g c (p16 X o (tw (w16 X o) x y)) ∧ But g w w') := fun u hu => by
      refine (write16_any g o n c2 c _ X u (hB.below hu) hn ho (adj_lt _ _ _)).mono fun e w' ⟨h1, h2, h3⟩ => ⟨h1, ?_, (But.of_below hu).trans h3⟩
      unfold tw; rw [if_neg he]; exact h2
    generalize w16 X o = s at *
    generalize M.adj s x y = z at *
    clear hB hX hn ho he hx hy
    go_enter Tryd.func59, Tryd.ntmps59
    go_wp2_with fail
    refine HRD.out.mono ?_
    rintro _ w1 ⟨rfl, hb1⟩
    have HB1 := hid hb1
    clear hb1
    go_wp2_with fail
    refine (HADJ.out w1).mono ?_
    rintro _ w2 ⟨rfl, hw2⟩
    obtain rfl : w1 = w2 := hw2.symm
    go_wp2_with fail
    refine (HWR.out w1 HB1.out).mono ?_
    rintro _ w3 ⟨rfl, h1, h2⟩
    have HF := hid (And.intro h1 h2)
    clear h1 h2
    go_wp2_with fail
    exact bodyPost_end (results_none Tryd.results59 _ _ _) rfl ⟨rfl, HF.out⟩

/-! ### the words of a tuple -/
def wc (W : List Nat) : Array Value := (W.map fun (x : Nat) => Value.int .u16 (x : Int)).toArray
def wo (t : Tu) : List Nat := [t.s / 65536, t.s % 65536, t.d / 65536, t.d % 65536, t.sp, t.dp]
theorem wo_lt {t : Tu} (h : t.Ok) : ∀ x ∈ wo t, x < 65536 := by
  have h1 := h.s; have h2 := h.d; have h3 := h.sp; have h4 := h.dp
  intro x hx
  simp [wo] at hx
  omega
theorem wc_one (W : List Nat) : (wc W).all (·.oneCell') = true := by simp [wc, Value.oneCell']
theorem wc_at {W : List Nat} {i : Nat} (h : i < W.length) : (wc W)[i]? = some (.int .u16 ((W[i] : Nat) : Int)) := by simp [wc, h]
theorem isWd : ∃ d, Tryd.prog.underlying 122 = some d ∧ d.isRow = true := ⟨_, Tryd.underlying122, rfl⟩
theorem ce_tuq {w : World} {b : Nat} {t : Tu} {T : TypeId} {r : Nat × Nat} (hr : w.heap[b]? = some (.cells t.cells T r)) : w.cell? ⟨b, 0, none⟩ = some (.int .u32 (t.s : Int)) ∧ w.cell? ⟨b, 1, none⟩ = some (.int .u32 (t.d : Int)) ∧ w.cell? ⟨b, 2, none⟩ = some (.int .u8 (t.p : Int)) ∧ w.cell? ⟨b, 3, none⟩ = some (.int .u16 (t.sp : Int)) ∧ w.cell? ⟨b, 4, none⟩ = some (.int .u16 (t.dp : Int)) := by
  refine ⟨?_, ?_, ?_, ?_, ?_⟩ <;> (rw [cell_of_row _ _ _ _ _ _ hr]; rfl)
theorem load_wc {u : World} {b : Nat} {W : List Nat} (hl : W.length = 6) {r : Nat × Nat} (h : u.heap[b]? = some (.cells (wc W) 122 r)) : (Instr.loadAt 122 (.pointer (some ⟨b, 0, none⟩))).run Tryd.prog u = .ok (.agg (wc W)) u := by
  obtain ⟨d, hd1, hd2⟩ := isWd
  refine load_at (cs := (wc W).toList) h (by rw [List.drop_zero, List.take_length]) hd1 hd2 ?_
  rw [show (wc W).toList.length = 6 from by simp [wc, hl]]
  kernel_rfl
theorem lv_wc {u : World} {b : Nat} {W : List Nat} (hl : W.length = 6) {r : Nat × Nat} (h : u.heap[b]? = some (.cells (wc W) 122 r)) : (loadVar 122 ⟨b, 0, none⟩).run Tryd.prog u = .ok (.agg (wc W)) u := by
  obtain ⟨d, hd1, hd2⟩ := isWd
  refine lv_at (cs := (wc W).toList) h (by rw [List.drop_zero, List.take_length]) hd1 hd2 ?_
  rw [show (wc W).toList.length = 6 from by simp [wc, hl]]
  kernel_rfl
theorem zw_cells : (#[.int .u16 0, .int .u16 0, .int .u16 0, .int .u16 0, .int .u16 0, .int .u16 0] : Array Value) = wc [0, 0, 0, 0, 0, 0] := rfl
theorem wo_cells (t : Tu) : (#[.int .u16 ((t.s : Int) / 65536), .int .u16 ((t.s : Int) % 65536), .int .u16 ((t.d : Int) / 65536), .int .u16 ((t.d : Int) % 65536), .int .u16 (t.sp : Int), .int .u16 (t.dp : Int)] : Array Value) = wc (wo t) := by
  simp [wc, wo]

/-- Two boxes, made one behind the other. -/
theorem box2 (w : World) (A C : Array Value) (T T' : TypeId) : ∃ w0 : World, w0 = (w.alloc (.cells A T)).alloc (.cells C T') ∧ Below w.heap.size w w0 ∧ w0.heap[w.heap.size]? = some (.cells A T (0, 0)) ∧ w0.heap[w.heap.size + 1]? = some (.cells C T' (0, 0)) := by
  refine ⟨_, rfl, ((Below.refl _ _).alloc (Nat.le_refl _) _).trans ((Below.refl _ _).alloc (by simp) _), ?_, ?_⟩
  · exact below_keeps (B := (w.alloc (.cells A T)).heap.size) ((Below.refl _ _).alloc (Nat.le_refl _) _) (heap_alloc_new w _) (by simp)
  · have := heap_alloc_new (w.alloc (.cells A T)) (.cells C T')
    rw [World.size_alloc] at this; exact this

theorem wordsOf_any (t : Tu) (w : World) (ht : t.Ok) :
    Calls Tryd.prog 56 #[.agg t.cells] w fun e w' => e = .returned (.agg (wc (wo t))) ∧ Below w.heap.size w w' := by
  obtain ⟨w0, hw0, hb0, r1, r2⟩ := box2 w t.cells (wc [0, 0, 0, 0, 0, 0]) 38 122
  obtain ⟨b, HB⟩ : ∃ b, Hid (b = w.heap.size) := ⟨_, rfl⟩
  have HW0 := hid hw0
  rw [← HB.out] at r1 r2
  obtain ⟨k0, k1, k2, k3, k4⟩ := ce_tuq r1
  have HR2 := hid r2
  have HB0 := hid hb0
  have h1 := ht.s; have h2 := ht.d
  have HL : Hid (w.heap.size ≤ b + 1) := by unfold Hid; rw [HB.out]; omega
  rw [← wo_cells]
  generalize t.cells = tc at *
  clear hw0 r1 r2 hb0 k2 ht
  go_enter Tryd.func56, Tryd.ntmps56
  go_upto_region 1 with fail
  rw [zw_cells, ← HW0.out, ← HB.out]
  go_wp2_with (first | (refine wpList_st rfl 122 (.tmp 2) (.tmp 21) rfl (b + 1) (wc (wo t)) rfl (by rw [← wo_cells]; rfl) _ (wc [0, 0, 0, 0, 0, 0]) HR2.out (by kernel_rfl) rfl (wc_one _) ?_; intro w2 hw2 hbut2) | fail)
  have hlv := lv_wc (W := wo t) rfl hw2
  rw [wo_cells]
  refine bodyPost_ret (v := .agg (wc (wo t))) (by simp [results, Tryd.results56, asAddr, Act.put, hlv]) rfl ⟨rfl, hbut2.below HB0.out HB0.out.size HL.out⟩

theorem ldP {u : World} {p : Addr} {x : Int} (h : u.cell? p = some (.int .u16 x)) : (Instr.loadAt 22 (.pointer (some p))).run Tryd.prog u = .ok (.int .u16 x) u := by simp [go_sem, h]
theorem idxW {b i : Nat} (h : i < 6) (u : World) : (Instr.indexAt 122 (.pointer (some ⟨b, 0, none⟩)) (.int .i64 (i : Int))).run Tryd.prog u = .ok (.pointer (some ⟨b, i, none⟩)) u := by
  have h2 : (i : Int) < 6 := by omega
  simp [go_sem, Tryd.underlying122, h2, Addr.add, Tryd.sizeOf22]
  exact fun h => h.symm

theorem turnSum_any (g o n c2 c : Nat) (W V X : List Nat) (w : World) (hB : Bk w g c X) (hX : ∀ x ∈ X, x < 256) (hn : 2 ≤ n) (ho : o + 2 ≤ X.length) (hW : ∀ x ∈ W, x < 65536) (hV : ∀ x ∈ V, x < 65536) (lW : W.length = 6) (lV : V.length = 6) :
    Calls Tryd.prog 57 #[.slice (some ⟨g, o, none⟩) n c2, .agg (wc W), .agg (wc V)] w fun e w' => e = .returned (.tuple #[]) ∧ Bk w' g c (p16 X o (ts (w16 X o) (W.zip V))) ∧ But g w w' := by
  obtain ⟨w0, hw0, hb0, r1, r2⟩ := box2 w (wc W) (wc V) 122 122
  obtain ⟨b, HB⟩ : ∃ b, Hid (b = w.heap.size) := ⟨_, rfl⟩
  have HW0 := hid hw0
  rw [← HB.out] at r1 r2
  have hbl : b + 1 < w0.heap.size := (Array.getElem?_eq_some_iff.1 r2).1
  have hgb : g < b := by rw [HB.out]; exact hB.lt
  have HZ : Hid ((W.zip V).length = 6) := by unfold Hid; rw [List.length_zip]; omega
  have HIN0 : Hid (∀ u, But g w0 u → ∀ i (h1 : i < W.length) (h2 : i < V.length), u.cell? ⟨b, i, none⟩ = some (.int .u16 ((W[i] : Nat) : Int)) ∧ u.cell? ⟨b + 1, i, none⟩ = some (.int .u16 ((V[i] : Nat) : Int))) := fun u hu i h1 h2 => by
    have e1 := (hu.block b (by omega) (by omega)).trans r1
    have e2 := (hu.block (b + 1) (by omega) (by omega)).trans r2
    rw [cell_of_row _ _ _ _ _ _ e1, cell_of_row _ _ _ _ _ _ e2, wc_at h1, wc_at h2]
    exact ⟨rfl, rfl⟩
  have HST : Hid (Bk w0 g c (p16 X o (ts (w16 X o) ((W.zip V).take 0))) ∧ But g w0 w0) := by
    refine ⟨?_, But.refl _ _⟩
    rw [List.take_zero, show ts (w16 X o) [] = w16 X o from rfl, p16_self hX ho]
    exact hB.below hb0
  have HEND : Hid (∀ u, Bk u g c (p16 X o (ts (w16 X o) ((W.zip V).take 6))) ∧ But g w0 u → Bk u g c (p16 X o (ts (w16 X o) (W.zip V))) ∧ But g w u) := fun u ⟨h1, h2⟩ => by
    rw [List.take_of_length_le (by rw [HZ.out]; omega)] at h1
    exact ⟨h1, (But.of_below hb0).trans h2⟩
  have HXX := hid (And.intro hX (And.intro hW hV))
  have HLL := hid (And.intro lW lV)
  clear hw0 r1 r2 hb0 hbl hgb hB hX hW hV lW lV
  go_enter Tryd.func57, Tryd.ntmps57
  go_upto_region 1 with fail
  rw [← HW0.out, ← HB.out]
  go_wp2_with fail
  go_loopw [7] (fun iv wr => ∃ i : Nat, iv = .int .i64 (i : Int) ∧ i ≤ 6 ∧ Hid (Bk wr g c (p16 X o (ts (w16 X o) ((W.zip V).take i))) ∧ But g w0 wr)) (fun iv _ => match iv with | .int _ z => 6 - z.toNat | _ => 0)
  case atStart => exact ⟨0, rfl, by omega, HST⟩
  case round =>
    obtain ⟨i, rfl, hi, HR⟩ := hrel
    by_cases hi6 : i < 6
    · have h1i : (i : Int) < 6 := by omega
      have l1 : i < W.length := by rw [HLL.out.1]; exact hi6
      have l2 : i < V.length := by rw [HLL.out.2]; exact hi6
      obtain ⟨x, HX⟩ : ∃ x, Hid (x = W[i]'l1) := ⟨_, rfl⟩
      obtain ⟨y, HY⟩ : ∃ y, Hid (y = V[i]'l2) := ⟨_, rfl⟩
      have hx : x < 65536 := by rw [HX.out]; exact HXX.out.2.1 _ (List.getElem_mem _)
      have hy : y < 65536 := by rw [HY.out]; exact HXX.out.2.2 _ (List.getElem_mem _)
      have HCE : Hid (∀ u : World, Below wr.heap.size wr u → u.cell? ⟨b, i, none⟩ = some (.int .u16 (x : Int)) ∧ u.cell? ⟨b + 1, i, none⟩ = some (.int .u16 (y : Int))) := fun u hu => by
        rw [HX.out, HY.out]
        exact HIN0.out u (HR.out.2.trans (But.of_below hu)) i l1 l2
      have HTK : Hid ((W.zip V).take (i + 1) = (W.zip V).take i ++ [(x, y)]) := by
        unfold Hid
        rw [List.take_add_one, List.getElem?_eq_getElem (by rw [HZ.out]; exact hi6), List.getElem_zip, HX.out, HY.out]; rfl
      have HIN := hid hi6
      have wi : IntKind.i64.wrap ((i : Int) + 1) = ((i + 1 : Nat) : Int) := by rw [IntKind.wrap_i64]; omega
      have HCALL : Hid (∀ u, Below wr.heap.size wr u → Calls Tryd.prog 59 #[.slice (some ⟨g, o, none⟩) n c2, .int .u16 (x : Int), .int .u16 (y : Int)] u fun e w' => e = .returned (.tuple #[]) ∧ Bk w' g c (p16 X o (ts (w16 X o) ((W.zip V).take (i + 1)))) ∧ But g w0 w') := fun u hu => by
        have hs := ts_lt (w16_lt HXX.out.1 o) ((W.zip V).take i)
        refine (turnWord_any g o n c2 c x y _ u (HR.out.1.below hu) (p16_lt HXX.out.1 hs) hn (by rw [p16_len]; exact ho) hx hy).mono fun e w' ⟨a1, a2, a3⟩ => ⟨a1, ?_, (HR.out.2.trans (But.of_below hu)).trans a3⟩
        rw [w16_p16 ho, p16_p16] at a2
        rw [HTK.out, ts_snoc]
        exact a2
      clear hx hy
      go_upto_region 4 with fail
      refine wp_region_guarded' 7 (fun i => ([10, 11, 12, 13, 14, 15, 16] : List Tmp).getD i 0) (Vs [.slice (some ⟨g, o, none⟩) n c2, .int .i64 (i : Int), .pointer (some ⟨b, i, none⟩), .int .u16 ((x : Nat) : Int), .int .i64 (i : Int), .pointer (some ⟨b + 1, i, none⟩), .int .u16 ((y : Nat) : Int)]) (fun u => Below wr.heap.size wr u) (fun _ u u' => Below u.heap.size u u') (by kernel_rfl) (by kernel_rfl) ⟨rfl, rfl, rfl, Nat.le_refl _, fun _ _ => rfl⟩ (fun _ _ _ _ _ _ h _ _ => h) ?_ ?_
      · simp only [List.take_succ_cons, List.take_zero, stepsG]
        refine ⟨?_, ?_, ?_, ?_, ?_, ?_, ?_, trivial⟩
        · intro a u vs hI hold hdep
          exact opAt_plain rfl (wp_still (ex_move (.tmp 0) _ rfl (hold 0 (dlM (L := [10, 11, 12, 13, 14, 15, 16]) (by decide)))) rfl rfl hI)
        · intro a u vs hI hold hdep
          exact opAt_plain rfl (wp_still (ex_move (.tmp 6) _ rfl (hold 6 (dlM (L := [10, 11, 12, 13, 14, 15, 16]) (by decide)))) rfl rfl hI)
        · intro a u vs hI hold hdep
          exact opAt_plain rfl (wp_still (ex_index 122 (.tmp 4) (.tmp 11) _ _ _ rfl (hold 4 (dlM (L := [10, 11, 12, 13, 14, 15, 16]) (by decide))) (Vs.dep (hdep ⟨1, .data⟩ (by simp) rfl (by decide)) rfl) (idxW HIN.out u)) rfl rfl hI)
        · intro a u vs hI hold hdep
          exact opAt_plain rfl (wp_still (ex_load _ ⟨b, i, none⟩ (.tmp 12) _ rfl (Vs.dep (hdep ⟨2, .data⟩ (by simp) rfl (by decide)) rfl) (ldP (HCE.out u hI).1)) rfl rfl hI)
        · intro a u vs hI hold hdep
          exact opAt_plain rfl (wp_still (ex_move (.tmp 6) _ rfl (hold 6 (dlM (L := [10, 11, 12, 13, 14, 15, 16]) (by decide)))) rfl rfl hI)
        · intro a u vs hI hold hdep
          exact opAt_plain rfl (wp_still (ex_index 122 (.tmp 5) (.tmp 14) _ _ _ rfl (hold 5 (dlM (L := [10, 11, 12, 13, 14, 15, 16]) (by decide))) (Vs.dep (hdep ⟨4, .data⟩ (by simp) rfl (by decide)) rfl) (idxW HIN.out u)) rfl rfl hI)
        · intro a u vs hI hold hdep
          exact opAt_plain rfl (wp_still (ex_load _ ⟨b + 1, i, none⟩ (.tmp 15) _ rfl (Vs.dep (hdep ⟨5, .data⟩ (by simp) rfl (by decide)) rfl) (ldP (HCE.out u hI).2)) rfl rfl hI)
      intro vs u hI hF
      have e0 : vs 0 = .slice (some ⟨g, o, none⟩) n c2 := (Option.some.inj (hF 0 (by decide))).symm
      have e1 : vs 1 = .int .i64 (i : Int) := (Option.some.inj (hF 1 (by decide))).symm
      have e2 : vs 2 = .pointer (some ⟨b, i, none⟩) := (Option.some.inj (hF 2 (by decide))).symm
      have e3 : vs 3 = .int .u16 ((x : Nat) : Int) := (Option.some.inj (hF 3 (by decide))).symm
      have e4 : vs 4 = .int .i64 (i : Int) := (Option.some.inj (hF 4 (by decide))).symm
      have e5 : vs 5 = .pointer (some ⟨b + 1, i, none⟩) := (Option.some.inj (hF 5 (by decide))).symm
      have e6 : vs 6 = .int .u16 ((y : Nat) : Int) := (Option.some.inj (hF 6 (by decide))).symm
      clear hF
      simp only [List.drop_succ_cons, List.drop_zero, puts, List.range, List.range.loop, List.foldr, if_true, List.getD_cons_zero, List.getD_cons_succ, e0, e1, e2, e3, e4, e5, e6, Act.put, List.setIfInBounds_toArray, List.set_cons_zero, List.set_cons_succ]
      clear e0 e1 e2 e3 e4 e5 e6
      have HB4 := hid hI
      clear hI HCE
      go_wp2_with fail
      refine (HCALL.out u HB4.out).mono ?_
      rintro _ w3 ⟨rfl, h1, h2⟩
      have HF := hid (And.intro h1 h2)
      clear h1 h2 HCALL
      go_wp2_with fail
      go_roundw
      case rel => exact ⟨i + 1, rfl, by omega, HF⟩
      case measure => simp; omega
    · have h1i : ¬ (i : Int) < 6 := by omega
      have HF : Hid (Bk wr g c (p16 X o (ts (w16 X o) (W.zip V))) ∧ But g w wr) := by
        have e : i = 6 := by omega
        have := HR.out
        rw [e] at this
        exact HEND.out wr this
      go_wp2_with fail
      exact bodyPost_end (results_none Tryd.results57 _ _ _) rfl ⟨rfl, HF.out⟩
end Go.Proofs.YthpokoiclfbddaaDoor.Nq
