import Derived.Test.YtkkfioebpppffaaGreatDoorYFlV
import Derived.Shelf.SlSortCmp.WholeK
import Derived.Shelf.SlGeneric
import Derived.Ground.SlsfProg
namespace Go.Proofs.YtkkfioebpppffaaGreatDoor.Fl
open Go.Proofs.YtkkfioebpppffaaGreatDoor Go.ChangeShapes Go.WideShapes Go.ChangeAt Go.RowKit Go.Maps N
open Go.Shelf Go.Lib
set_option maxHeartbeats 4000000
set_option maxRecDepth 100000

def cmpI (x y : Int) : Int := if x < y then -1 else if y < x then 1 else 0

theorem isNaNI_any (x : Int) (w : World) : Calls Tryz.prog 73 #[.int .i64 x] w fun e w' => e = .returned (.bool false) ∧ w' = w := by
  go_enter Tryz.func73, Tryz.ntmps73
  go_wp2
  go_ret
  exact ⟨rfl, rfl⟩
theorem compareI_any (x y : Int) (w : World) : Calls Tryz.prog 49 #[.int .i64 x, .int .i64 y] w fun e w' => e = .returned (.int .i64 (cmpI x y)) ∧ w' = w := by
  have HX := hid (isNaNI_any x w)
  have HY := hid (isNaNI_any y w)
  by_cases h1 : x < y
  · have HE : Hid (cmpI x y = -1) := by unfold Hid cmpI; rw [if_pos h1]
    go_enter Tryz.func49, Tryz.ntmps49
    go_wp2_with fail
    refine HX.out.mono ?_
    rintro _ _ ⟨rfl, ew⟩
    obtain rfl := ew.symm
    go_wp2_with fail
    refine HY.out.mono ?_
    rintro _ _ ⟨rfl, ew⟩
    obtain rfl := ew.symm
    go_wp2_with fail
    go_ret
    exact ⟨by rw [HE.out]; rfl, rfl⟩
  · by_cases h2 : y < x
    · have HE : Hid (cmpI x y = 1) := by unfold Hid cmpI; rw [if_neg h1, if_pos h2]
      go_enter Tryz.func49, Tryz.ntmps49
      go_wp2_with fail
      refine HX.out.mono ?_
      rintro _ _ ⟨rfl, ew⟩
      obtain rfl := ew.symm
      go_wp2_with fail
      refine HY.out.mono ?_
      rintro _ _ ⟨rfl, ew⟩
      obtain rfl := ew.symm
      go_wp2_with fail
      go_ret
      exact ⟨by rw [HE.out]; rfl, rfl⟩
    · have HE : Hid (cmpI x y = 0) := by unfold Hid cmpI; rw [if_neg h1, if_neg h2]
      go_enter Tryz.func49, Tryz.ntmps49
      go_wp2_with fail
      refine HX.out.mono ?_
      rintro _ _ ⟨rfl, ew⟩
      obtain rfl := ew.symm
      go_wp2_with fail
      refine HY.out.mono ?_
      rintro _ _ ⟨rfl, ew⟩
      obtain rfl := ew.symm
      go_wp2_with fail
      go_ret
      exact ⟨by rw [HE.out]; rfl, rfl⟩

theorem isNaNA_any (x : Int) (w : World) : Calls Tryz.prog 74 #[.int .u32 x] w fun e w' => e = .returned (.bool false) ∧ w' = w := by
  go_enter Tryz.func74, Tryz.ntmps74
  go_wp2
  go_ret
  exact ⟨rfl, rfl⟩
theorem compareA_any (x y : Int) (w : World) : Calls Tryz.prog 51 #[.int .u32 x, .int .u32 y] w fun e w' => e = .returned (.int .i64 (cmpI x y)) ∧ w' = w := by
  have HX := hid (isNaNA_any x w)
  have HY := hid (isNaNA_any y w)
  by_cases h1 : x < y
  · have HE : Hid (cmpI x y = -1) := by unfold Hid cmpI; rw [if_pos h1]
    go_enter Tryz.func51, Tryz.ntmps51
    go_wp2_with fail
    refine HX.out.mono ?_
    rintro _ _ ⟨rfl, ew⟩
    obtain rfl := ew.symm
    go_wp2_with fail
    refine HY.out.mono ?_
    rintro _ _ ⟨rfl, ew⟩
    obtain rfl := ew.symm
    go_wp2_with fail
    go_ret
    exact ⟨by rw [HE.out]; rfl, rfl⟩
  · by_cases h2 : y < x
    · have HE : Hid (cmpI x y = 1) := by unfold Hid cmpI; rw [if_neg h1, if_pos h2]
      go_enter Tryz.func51, Tryz.ntmps51
      go_wp2_with fail
      refine HX.out.mono ?_
      rintro _ _ ⟨rfl, ew⟩
      obtain rfl := ew.symm
      go_wp2_with fail
      refine HY.out.mono ?_
      rintro _ _ ⟨rfl, ew⟩
      obtain rfl := ew.symm
      go_wp2_with fail
      go_ret
      exact ⟨by rw [HE.out]; rfl, rfl⟩
    · have HE : Hid (cmpI x y = 0) := by unfold Hid cmpI; rw [if_neg h1, if_neg h2]
      go_enter Tryz.func51, Tryz.ntmps51
      go_wp2_with fail
      refine HX.out.mono ?_
      rintro _ _ ⟨rfl, ew⟩
      obtain rfl := ew.symm
      go_wp2_with fail
      refine HY.out.mono ?_
      rintro _ _ ⟨rfl, ew⟩
      obtain rfl := ew.symm
      go_wp2_with fail
      go_ret
      exact ⟨by rw [HE.out]; rfl, rfl⟩

theorem isNaNB_any (x : Int) (w : World) : Calls Tryz.prog 75 #[.int .u8 x] w fun e w' => e = .returned (.bool false) ∧ w' = w := by
  go_enter Tryz.func75, Tryz.ntmps75
  go_wp2
  go_ret
  exact ⟨rfl, rfl⟩
theorem compareB_any (x y : Int) (w : World) : Calls Tryz.prog 52 #[.int .u8 x, .int .u8 y] w fun e w' => e = .returned (.int .i64 (cmpI x y)) ∧ w' = w := by
  have HX := hid (isNaNB_any x w)
  have HY := hid (isNaNB_any y w)
  by_cases h1 : x < y
  · have HE : Hid (cmpI x y = -1) := by unfold Hid cmpI; rw [if_pos h1]
    go_enter Tryz.func52, Tryz.ntmps52
    go_wp2_with fail
    refine HX.out.mono ?_
    rintro _ _ ⟨rfl, ew⟩
    obtain rfl := ew.symm
    go_wp2_with fail
    refine HY.out.mono ?_
    rintro _ _ ⟨rfl, ew⟩
    obtain rfl := ew.symm
    go_wp2_with fail
    go_ret
    exact ⟨by rw [HE.out]; rfl, rfl⟩
  · by_cases h2 : y < x
    · have HE : Hid (cmpI x y = 1) := by unfold Hid cmpI; rw [if_neg h1, if_pos h2]
      go_enter Tryz.func52, Tryz.ntmps52
      go_wp2_with fail
      refine HX.out.mono ?_
      rintro _ _ ⟨rfl, ew⟩
      obtain rfl := ew.symm
      go_wp2_with fail
      refine HY.out.mono ?_
      rintro _ _ ⟨rfl, ew⟩
      obtain rfl := ew.symm
      go_wp2_with fail
      go_ret
      exact ⟨by rw [HE.out]; rfl, rfl⟩
    · have HE : Hid (cmpI x y = 0) := by unfold Hid cmpI; rw [if_neg h1, if_neg h2]
      go_enter Tryz.func52, Tryz.ntmps52
      go_wp2_with fail
      refine HX.out.mono ?_
      rintro _ _ ⟨rfl, ew⟩
      obtain rfl := ew.symm
      go_wp2_with fail
      refine HY.out.mono ?_
      rintro _ _ ⟨rfl, ew⟩
      obtain rfl := ew.symm
      go_wp2_with fail
      go_ret
      exact ⟨by rw [HE.out]; rfl, rfl⟩

theorem isNaNP_any (x : Int) (w : World) : Calls Tryz.prog 76 #[.int .u16 x] w fun e w' => e = .returned (.bool false) ∧ w' = w := by
  go_enter Tryz.func76, Tryz.ntmps76
  go_wp2
  go_ret
  exact ⟨rfl, rfl⟩
theorem compareP_any (x y : Int) (w : World) : Calls Tryz.prog 53 #[.int .u16 x, .int .u16 y] w fun e w' => e = .returned (.int .i64 (cmpI x y)) ∧ w' = w := by
  have HX := hid (isNaNP_any x w)
  have HY := hid (isNaNP_any y w)
  by_cases h1 : x < y
  · have HE : Hid (cmpI x y = -1) := by unfold Hid cmpI; rw [if_pos h1]
    go_enter Tryz.func53, Tryz.ntmps53
    go_wp2_with fail
    refine HX.out.mono ?_
    rintro _ _ ⟨rfl, ew⟩
    obtain rfl := ew.symm
    go_wp2_with fail
    refine HY.out.mono ?_
    rintro _ _ ⟨rfl, ew⟩
    obtain rfl := ew.symm
    go_wp2_with fail
    go_ret
    exact ⟨by rw [HE.out]; rfl, rfl⟩
  · by_cases h2 : y < x
    · have HE : Hid (cmpI x y = 1) := by unfold Hid cmpI; rw [if_neg h1, if_pos h2]
      go_enter Tryz.func53, Tryz.ntmps53
      go_wp2_with fail
      refine HX.out.mono ?_
      rintro _ _ ⟨rfl, ew⟩
      obtain rfl := ew.symm
      go_wp2_with fail
      refine HY.out.mono ?_
      rintro _ _ ⟨rfl, ew⟩
      obtain rfl := ew.symm
      go_wp2_with fail
      go_ret
      exact ⟨by rw [HE.out]; rfl, rfl⟩
    · have HE : Hid (cmpI x y = 0) := by unfold Hid cmpI; rw [if_neg h1, if_neg h2]
      go_enter Tryz.func53, Tryz.ntmps53
      go_wp2_with fail
      refine HX.out.mono ?_
      rintro _ _ ⟨rfl, ew⟩
      obtain rfl := ew.symm
      go_wp2_with fail
      refine HY.out.mono ?_
      rintro _ _ ⟨rfl, ew⟩
      obtain rfl := ew.symm
      go_wp2_with fail
      go_ret
      exact ⟨by rw [HE.out]; rfl, rfl⟩

/-- The first of some numbers that is not 0. -/
def orL : List Int → Int
  | [] => 0
  | a :: l => if a = 0 then orL l else a
def ic (L : List Int) : Array Value := (L.map fun x => Value.int .i64 x).toArray
theorem ic_cell {w : World} {b : Nat} {L : List Int} {T : TypeId} {r : Nat × Nat} (h : w.heap[b]? = some (.cells (ic L) T r)) (j : Nat) (hj : j < L.length) : w.cell? ⟨b, j, none⟩ = some (.int .i64 L[j]) := by
  rw [cell_of_row _ _ _ _ _ _ h]; simp [ic, hj]

theorem or_any (g n cap : Nat) (L : List Int) (w : World) (h : w.heap[g]? = some (.cells (ic L) 3 (0, 0))) (hn : n = L.length) (hl : n ≤ 1000) :
    Calls Tryz.prog 48 #[.slice (some ⟨g, 0, none⟩) n cap] w fun e w' => e = .returned (.int .i64 (orL L)) ∧ w' = w := by
  have HC : Hid (∀ j (hj : j < L.length), w.cell? ⟨g, j, none⟩ = some (.int .i64 L[j])) := fun j hj => ic_cell h j hj
  have HN := hid hn
  clear h hn
  go_enter Tryz.func48, Tryz.ntmps48
  go_wp2_with fail
  go_loopw [8] (fun kv wr => ∃ k : Nat, kv = .int .i64 (k : Int) ∧ k ≤ n ∧ wr = w ∧ Hid (orL L = orL (L.drop k))) (fun kv _ => match kv with | .int _ z => n - z.toNat | _ => 0)
  case atStart => exact ⟨0, rfl, by omega, rfl, rfl⟩
  case round =>
    obtain ⟨k, rfl, hk, hw, HO⟩ := hrel
    obtain rfl := hw.symm
    by_cases hkn : k < n
    · have hkl : k < L.length := by rw [← HN.out]; exact hkn
      have cc := HC.out k hkl
      have hd : L.drop k = L[k] :: L.drop (k + 1) := List.drop_eq_getElem_cons hkl
      obtain ⟨x, HX⟩ : ∃ x : Int, Hid (x = L[k]'hkl) := ⟨L[k]'hkl, rfl⟩
      rw [← HX.out] at cc hd
      by_cases hx : x = 0
      · have HO2 : Hid (orL L = orL (L.drop (k + 1))) := by unfold Hid; rw [HO.out, hd, orL, if_pos hx]
        have hx' : (x == 0) = true := by simp [hx]
        clear hd HO HX hkl
        go_wp2_with fail
        go_roundw
        case rel => exact ⟨k + 1, by first | trivial | rfl | (simp; done) | (congr 1), by omega, by first | trivial | rfl, HO2⟩
        case measure => simp; omega
      · have HO2 : Hid (orL L = x) := by unfold Hid; rw [HO.out, hd, orL, if_neg hx]
        have hx' : (x == 0) = false := by simp [hx]
        clear hd HO HX hkl
        go_wp2_with fail
        go_ret
        exact ⟨by rw [HO2.out]; rfl, rfl⟩
    · have HO2 : Hid (orL L = 0) := by
        unfold Hid; rw [HO.out, List.drop_eq_nil_of_le (by rw [← HN.out]; omega)]; rfl
      clear HO
      go_wp2_with fail
      go_ret
      exact ⟨by rw [HO2.out]; rfl, rfl⟩

/-- A world that only grew, and drew. -/
def GB (w w' : World) : Prop := Below w.heap.size w w' ∧ w.drawn ≤ w'.drawn
theorem GB.refl (w : World) : GB w w := ⟨Below.refl _ _, Nat.le_refl _⟩
theorem GB.trans {a b c : World} (h1 : GB a b) (h2 : GB b c) : GB a c := ⟨h1.1.trans (h2.1.mono h1.1.size), Nat.le_trans h1.2 h2.2⟩
theorem gb_grow {w w' : World} (h : GB w w') : ∃ q os', w' = Sort.grow (w.drewN q) os' := by
  refine ⟨w'.drawn - w.drawn, w'.heap.extract w.heap.size w'.heap.size, ?_⟩
  obtain ⟨hb, hd⟩ := h
  cases w with | mk hp tp dr os out =>
  cases w' with | mk hp' tp' dr' os' out' =>
  have e1 := hb.os
  have e2 := hb.tape
  have e3 := hb.output
  have e4 := hb.size
  have e5 := hb.block
  simp only at e1 e2 e3 e4 e5 hd
  subst e1 e2 e3
  have eh : hp' = hp ++ hp'.extract hp.size hp'.size := by
    apply Array.ext_getElem?
    intro i
    by_cases hi : i < hp.size
    · rw [Array.getElem?_append_left hi]; exact e5 i hi
    · rw [Array.getElem?_append_right (by omega), Array.getElem?_extract]
      by_cases h2 : i < hp'.size
      · rw [if_pos (by simp; omega)]; congr 1; omega
      · rw [if_neg (by simp; omega)]; exact Array.getElem?_eq_none (by omega)
  have ed : dr + (dr' - dr) = dr' := by omega
  show World.mk hp' tp' dr' os' out' = World.mk (hp ++ hp'.extract hp.size hp'.size) tp' (dr + (dr' - dr)) os' out'
  rw [ed, ← eh]
theorem grow_gb {w w' : World} {q : Nat} {os' : Array Obj} (h : w' = Sort.grow (w.drewN q) os') : GB w w' := by
  subst h
  refine ⟨⟨rfl, rfl, rfl, ?_, fun k hk => ?_⟩, Nat.le_add_right _ _⟩
  · show w.heap.size ≤ (w.heap ++ os').size
    simp
  · show (w.heap ++ os')[k]? = _
    rw [Array.getElem?_append_left hk]

/-- What the operations of a drawn region that only grows hold: a value, or a slice of numbers in a block of its own. -/
def FG (l : List (Value ⊕ List Int)) (i : Nat) (vs : Nat → Value) (w : World) : Prop :=
  match l[i]? with
  | some (.inl y) => vs i = y
  | some (.inr row) => ∃ b, vs i = .slice (some ⟨b, 0, none⟩) row.length row.length ∧ w.heap[b]? = some (.cells (ic row) 3 (0, 0))
  | none => True
section
variable {l : List (Value ⊕ List Int)} {i j : Nat} {vs : Nat → Value} {w w' W : World} {v y : Value} {row : List Int} {a : Act} {s : Tmp} {o : Oper} {d : Option Tmp} {Q : Exit → Act → World → Prop}
theorem FG.keeps (hij : i ≠ j) (h : FG l i vs w) (hr : GB w w') : FG l i (upd vs j v) w' := by
  unfold FG at *
  split
  · rename_i y hy; rw [hy] at h; rw [upd_ne _ hij]; exact h
  · rename_i row hy
    rw [hy] at h
    obtain ⟨b, h1, h2⟩ := h
    exact ⟨b, by rw [upd_ne _ hij]; exact h1, below_keeps hr.1 h2 (Array.getElem?_eq_some_iff.1 h2).1⟩
  · trivial
theorem fg_is (h : FG l i vs w) (hy : l[i]? = some (.inl y)) : vs i = y := by
  unfold FG at h; rw [hy] at h; exact h
theorem fg_isS (h : FG l i vs w) (hy : l[i]? = some (.inr row)) : ∃ b, vs i = .slice (some ⟨b, 0, none⟩) row.length row.length ∧ w.heap[b]? = some (.cells (ic row) 3 (0, 0)) := by
  unfold FG at h; rw [hy] at h; exact h
theorem fg_dep (h : FG l i vs w) (hs : a.eval (.tmp s) = vs i) (hy : l[i]? = some (.inl y)) : a.eval (.tmp s) = y := hs.trans (fg_is h hy)
theorem fg_depS (h : FG l i vs w) (hs : a.eval (.tmp s) = vs i) (hy : l[i]? = some (.inr row)) : ∃ b, a.eval (.tmp s) = .slice (some ⟨b, 0, none⟩) row.length row.length ∧ w.heap[b]? = some (.cells (ic row) 3 (0, 0)) := by
  obtain ⟨b, h1, h2⟩ := fg_isS h hy
  exact ⟨b, hs.trans h1, h2⟩
theorem fg_still {P : Program} (hr : (execOp a.eval o).run P w = .ok (.value v) w) (ht : o.dst = d) (hv : l[i]? = some (.inl v)) (hI : GB W w) :
    o.wp P a w (fun a' w' => ∃ v', a' = a.put d v' ∧ FG l i (upd vs i v') w' ∧ GB W w' ∧ GB w w') Q :=
  wp_val hr (by rw [ht]; exact ⟨v, rfl, by unfold FG; rw [hv, upd_eq], hI, GB.refl _⟩)
theorem fg_slice {P : Program} (hr : (execOp a.eval o).run P w = .ok (.value (.slice (some ⟨w.heap.size, 0, none⟩) row.length row.length)) (w.alloc (.cells (ic row) 3))) (ht : o.dst = d) (hv : l[i]? = some (.inr row)) (hI : GB W w) :
    o.wp P a w (fun a' w' => ∃ v', a' = a.put d v' ∧ FG l i (upd vs i v') w' ∧ GB W w' ∧ GB w w') Q :=
  wp_val hr (by
    rw [ht]
    have hb : GB w (w.alloc (.cells (ic row) 3)) := ⟨(Below.refl _ _).alloc (Nat.le_refl _) _, Nat.le_refl _⟩
    refine ⟨_, rfl, ?_, hI.trans hb, hb⟩
    unfold FG
    rw [hv, upd_eq]
    exact ⟨_, rfl, heap_alloc_new w _⟩)
theorem fg_ret {P : Program} {f : FuncId} {args : Array Value} (hd : o.dst = d) (hv : l[i]? = some (.inl v)) (hI : GB W w) (h : Calls P f args w fun e w' => e = .returned v ∧ GB w w') :
    Calls P f args w fun e w' => ∃ v', e = .returned v' ∧ ∃ v'', a.put o.dst v' = a.put d v'' ∧ FG l i (upd vs i v'') w' ∧ GB W w' ∧ GB w w' :=
  h.mono fun e w' ⟨he, hb⟩ => ⟨v, he, v, by rw [hd], by unfold FG; rw [hv, upd_eq], hI.trans hb, hb⟩
end
theorem ldA {u : World} {p : Addr} {x : Int} (h : u.cell? p = some (.int .u32 x)) : (Instr.loadAt 30 (.pointer (some p))).run Tryz.prog u = .ok (.int .u32 x) u := by simp [go_sem, h]
theorem ldB {u : World} {p : Addr} {x : Int} (h : u.cell? p = some (.int .u8 x)) : (Instr.loadAt 5 (.pointer (some p))).run Tryz.prog u = .ok (.int .u8 x) u := by simp [go_sem, h]
theorem ldP {u : World} {p : Addr} {x : Int} (h : u.cell? p = some (.int .u16 x)) : (Instr.loadAt 28 (.pointer (some p))).run Tryz.prog u = .ok (.int .u16 x) u := by simp [go_sem, h]
theorem ldI {u : World} {p : Addr} {x : Int} (h : u.cell? p = some (.int .i64 x)) : (Instr.loadAt 2 (.pointer (some p))).run Tryz.prog u = .ok (.int .i64 x) u := by simp [go_sem, h]
theorem build2I (a b : Int) (u : World) : (Instr.buildSlice 85 2 #[(0, .int .i64 a), (1, .int .i64 b)]).run Tryz.prog u = .ok (.slice (some ⟨u.heap.size, 0, none⟩) 2 2) (u.alloc (.cells #[.int .i64 a, .int .i64 b] 3)) := by kernel_rfl
theorem build5I (a b c d e : Int) (u : World) : (Instr.buildSlice 85 5 #[(0, .int .i64 a), (1, .int .i64 b), (2, .int .i64 c), (3, .int .i64 d), (4, .int .i64 e)]).run Tryz.prog u = .ok (.slice (some ⟨u.heap.size, 0, none⟩) 5 5) (u.alloc (.cells #[.int .i64 a, .int .i64 b, .int .i64 c, .int .i64 d, .int .i64 e] 3)) := by kernel_rfl
theorem ex_bslice {P : Program} {o : Oper} {a : Act} {w w' : World} {v : Value} (T : TypeId) (n : Nat) (xs : Array (Nat × Operand)) (vs : Array (Nat × Value)) (hxs : o.op = .buildSlice T n xs) (hv : xs.map (fun p => (p.1, a.eval p.2)) = vs) (hr : (Instr.buildSlice T n vs).run P w = .ok v w') : (execOp a.eval o).run P w = .ok (.value v) w' := by
  unfold execOp
  simp only [hxs, hv, Sem.run_bind, hr, Result.andThen_ok, Sem.run_pure]

/-! ### the orders -/
def lexC {α : Type} (ks : List (α → Int)) : α → α → Int := fun x y => orL (ks.map fun f => cmpI (f x) (f y))
theorem orL2 (a : Int) (l : List Int) : orL [a, orL l] = orL (a :: l) := by
  simp only [orL]
  by_cases h : a = 0
  · rw [if_pos h, if_pos h]
    by_cases h2 : orL l = 0
    · rw [if_pos h2, h2]
    · rw [if_neg h2]
  · rw [if_neg h, if_neg h]
theorem lex_lt {α : Type} (f : α → Int) (ks : List (α → Int)) (x y : α) : ltOf (lexC (f :: ks)) x y = (decide (f x < f y) || (decide (f x = f y) && ltOf (lexC ks) x y)) := by
  unfold ltOf lexC
  simp only [List.map_cons, orL]
  unfold cmpI
  by_cases h1 : f x < f y
  · simp [h1]
  · by_cases h2 : f y < f x
    · have h3 : ¬ f x = f y := by omega
      simp [h1, h2, h3]
    · have h3 : f x = f y := by omega
      simp [h3]
theorem swo_lex {α : Type} : ∀ ks : List (α → Int), Sort.SWO (ltOf (lexC ks))
  | [] => ⟨fun _ => rfl, fun _ _ _ h _ => (by cases h), fun _ _ _ _ _ => rfl⟩
  | f :: ks => by
    have ih := swo_lex ks
    refine ⟨fun x => ?_, fun x y z h1 h2 => ?_, fun x y z h1 h2 => ?_⟩
    · rw [lex_lt, ih.irrefl]; simp
    · rw [lex_lt] at h1 h2 ⊢
      simp only [Bool.or_eq_true, decide_eq_true_eq, Bool.and_eq_true] at h1 h2 ⊢
      rcases h1 with h1 | ⟨h1, h1'⟩ <;> rcases h2 with h2 | ⟨h2, h2'⟩
      · left; omega
      · left; omega
      · left; omega
      · exact .inr ⟨by omega, ih.trans x y z h1' h2'⟩
    · rw [lex_lt] at h1 h2 ⊢
      simp only [Bool.or_eq_false_iff, decide_eq_false_iff_not, Bool.and_eq_false_iff] at h1 h2 ⊢
      obtain ⟨a1, b1⟩ := h1
      obtain ⟨a2, b2⟩ := h2
      refine ⟨by omega, ?_⟩
      by_cases e : f x = f z
      · right
        rcases b1 with b1 | b1
        · omega
        · rcases b2 with b2 | b2
          · omega
          · exact ih.ntrans x y z b1 b2
      · exact .inl e
/-- By There. -/
def kTu : List (Tu → Int) := [fun t => (t.s : Int), fun t => (t.d : Int), fun t => (t.p : Int), fun t => (t.sp : Int), fun t => (t.dp : Int)]
def kTh : List (Fw → Int) := [fun f => (f.th.s : Int), fun f => (f.th.d : Int), fun f => (f.th.p : Int), fun f => (f.th.sp : Int), fun f => (f.th.dp : Int)]
def kEn : List (Fw → Int) := (fun f => f.til) :: kTh
def cmpT (x y : Tu) : Int := lexC kTu x y
def cmpTh (x y : Fw) : Int := lexC kTh x y
def cmpEn (x y : Fw) : Int := lexC kEn x y
theorem cmpTh_eq (x y : Fw) : cmpTh x y = cmpT x.th y.th := rfl
theorem cmpEn_eq (x y : Fw) : cmpEn x y = orL [cmpI x.til y.til, cmpTh x y] := (orL2 _ _).symm
theorem swoTh : Sort.SWO (ltOf cmpTh) := swo_lex kTh
theorem swoEn : Sort.SWO (ltOf cmpEn) := swo_lex kEn

theorem compare_any (x y : Tu) (w : World) : Calls Tryz.prog 32 #[.agg x.cells, .agg y.cells] w fun e w' => e = .returned (.int .i64 (cmpT x y)) ∧ GB w w' := by
  obtain ⟨u, HU⟩ : ∃ u, Hid (u = (w.alloc (.cells x.cells 37)).alloc (.cells y.cells 37)) := ⟨_, rfl⟩
  have HB : Hid (GB w u) := grow_gb (q := 0) (by rw [HU.out, Sort.alloc_eq_grow, Sort.alloc_eq_grow, Sort.grow_grow]; rfl)
  have r1 : u.heap[w.heap.size]? = some (.cells x.cells 37 (0, 0)) := by
    rw [HU.out, Below.heap_alloc _ _ _ (by simp)]
    exact heap_alloc_new w _
  have r2 : u.heap[w.heap.size + 1]? = some (.cells y.cells 37 (0, 0)) := by
    rw [HU.out]
    have := heap_alloc_new (w.alloc (.cells x.cells 37)) (.cells y.cells 37)
    simpa using this
  obtain ⟨b2, HB2⟩ : ∃ b, Hid (b = w.heap.size) := ⟨_, rfl⟩
  obtain ⟨b3, HB3⟩ : ∃ b, Hid (b = w.heap.size + 1) := ⟨_, rfl⟩
  rw [← HB2.out] at r1
  rw [← HB3.out] at r2
  have HX : Hid (∀ v : World, Below u.heap.size u v → v.cell? ⟨b2, 0, none⟩ = some (.int .u32 (x.s : Int)) ∧ v.cell? ⟨b3, 0, none⟩ = some (.int .u32 (y.s : Int)) ∧ v.cell? ⟨b2, 1, none⟩ = some (.int .u32 (x.d : Int)) ∧ v.cell? ⟨b3, 1, none⟩ = some (.int .u32 (y.d : Int)) ∧ v.cell? ⟨b2, 2, none⟩ = some (.int .u8 (x.p : Int)) ∧ v.cell? ⟨b3, 2, none⟩ = some (.int .u8 (y.p : Int)) ∧ v.cell? ⟨b2, 3, none⟩ = some (.int .u16 (x.sp : Int)) ∧ v.cell? ⟨b3, 3, none⟩ = some (.int .u16 (y.sp : Int)) ∧ v.cell? ⟨b2, 4, none⟩ = some (.int .u16 (x.dp : Int)) ∧ v.cell? ⟨b3, 4, none⟩ = some (.int .u16 (y.dp : Int))) := fun v hv => by
    have q1 := below_keeps hv r1 (Array.getElem?_eq_some_iff.1 r1).1
    have q2 := below_keeps hv r2 (Array.getElem?_eq_some_iff.1 r2).1
    refine ⟨?_, ?_, ?_, ?_, ?_, ?_, ?_, ?_, ?_, ?_⟩ <;> first | (rw [cell_of_row _ _ _ _ _ _ q1]; rfl) | (rw [cell_of_row _ _ _ _ _ _ q2]; rfl)
  clear r1 r2
  go_enter Tryz.func32, Tryz.ntmps32
  go_upto_region 1 with fail
  rw [← HU.out, ← HB3.out, ← HB2.out]
  refine wp_region_all' 28 (fun i => ([some 5, some 6, some 7, some 8, some 9, some 10, some 11, some 12, some 13, some 14, some 15, some 16, some 17, some 18, some 19, some 20, some 21, some 22, some 23, some 24, some 25, some 26, some 27, some 28, some 29, some 30, some 31, some 4] : List (Option Tmp)).getD i none) (FG [.inl (.pointer (some ⟨b2, 0, none⟩)), .inl (.int .u32 (x.s : Int)), .inl (.pointer (some ⟨b3, 0, none⟩)), .inl (.int .u32 (y.s : Int)), .inl (.int .i64 (cmpI (x.s : Int) (y.s : Int))), .inl (.pointer (some ⟨b2, 1, none⟩)), .inl (.int .u32 (x.d : Int)), .inl (.pointer (some ⟨b3, 1, none⟩)), .inl (.int .u32 (y.d : Int)), .inl (.int .i64 (cmpI (x.d : Int) (y.d : Int))), .inl (.pointer (some ⟨b2, 2, none⟩)), .inl (.int .u8 (x.p : Int)), .inl (.pointer (some ⟨b3, 2, none⟩)), .inl (.int .u8 (y.p : Int)), .inl (.int .i64 (cmpI (x.p : Int) (y.p : Int))), .inl (.pointer (some ⟨b2, 3, none⟩)), .inl (.int .u16 (x.sp : Int)), .inl (.pointer (some ⟨b3, 3, none⟩)), .inl (.int .u16 (y.sp : Int)), .inl (.int .i64 (cmpI (x.sp : Int) (y.sp : Int))), .inl (.pointer (some ⟨b2, 4, none⟩)), .inl (.int .u16 (x.dp : Int)), .inl (.pointer (some ⟨b3, 4, none⟩)), .inl (.int .u16 (y.dp : Int)), .inl (.int .i64 (cmpI (x.dp : Int) (y.dp : Int))), .inr [cmpI (x.s : Int) (y.s : Int), cmpI (x.d : Int) (y.d : Int), cmpI (x.p : Int) (y.p : Int), cmpI (x.sp : Int) (y.sp : Int), cmpI (x.dp : Int) (y.dp : Int)], .inl (.int .i64 (cmpT x y)), .inl (.int .i64 (cmpT x y))]) (fun v => GB u v) (fun _ v v' => GB v v') (by kernel_rfl) (by kernel_rfl) ⟨⟨rfl, rfl, rfl, Nat.le_refl _, fun _ _ => rfl⟩, Nat.le_succ _⟩ (fun i j _ vs v _ _ hij _ _ hF _ hr => FG.keeps hij hF hr) ?_ ?_
  · simp only [N.stepsAll]
    refine ⟨?_, ?_, ?_, ?_, ?_, ?_, ?_, ?_, ?_, ?_, ?_, ?_, ?_, ?_, ?_, ?_, ?_, ?_, ?_, ?_, ?_, ?_, ?_, ?_, ?_, ?_, ?_, ?_, trivial⟩
    · intro a v vs hI hold hdep
      exact fg_still (ex_field _ ⟨b2, 0, none⟩ (.tmp 2) 0 _ rfl (hold 2 (dl_of (L := [some 5, some 6, some 7, some 8, some 9, some 10, some 11, some 12, some 13, some 14, some 15, some 16, some 17, some 18, some 19, some 20, some 21, some 22, some 23, some 24, some 25, some 26, some 27, some 28, some 29, some 30, some 31, some 4]) (by decide))) (by kernel_rfl)) rfl rfl hI
    · intro a v vs hI hold hdep
      exact fg_still (ex_load _ ⟨b2, 0, none⟩ (.tmp 5) _ rfl (fg_dep (hdep ⟨0, .data⟩ (by simp) rfl).1 ((hdep ⟨0, .data⟩ (by simp) rfl).2 5 rfl) rfl) (ldA (HX.out v hI.1).1)) rfl rfl hI
    · intro a v vs hI hold hdep
      exact fg_still (ex_field _ ⟨b3, 0, none⟩ (.tmp 3) 0 _ rfl (hold 3 (dl_of (L := [some 5, some 6, some 7, some 8, some 9, some 10, some 11, some 12, some 13, some 14, some 15, some 16, some 17, some 18, some 19, some 20, some 21, some 22, some 23, some 24, some 25, some 26, some 27, some 28, some 29, some 30, some 31, some 4]) (by decide))) (by kernel_rfl)) rfl rfl hI
    · intro a v vs hI hold hdep
      exact fg_still (ex_load _ ⟨b3, 0, none⟩ (.tmp 7) _ rfl (fg_dep (hdep ⟨2, .data⟩ (by simp) rfl).1 ((hdep ⟨2, .data⟩ (by simp) rfl).2 7 rfl) rfl) (ldA (HX.out v hI.1).2.1)) rfl rfl hI
    · intro a v vs hI hold hdep
      have e0 : a.eval (.tmp 6) = .int .u32 (x.s : Int) := (fg_dep (hdep ⟨1, .data⟩ (by simp) rfl).1 ((hdep ⟨1, .data⟩ (by simp) rfl).2 6 rfl) rfl)
      have e1 : a.eval (.tmp 8) = .int .u32 (y.s : Int) := (fg_dep (hdep ⟨3, .data⟩ (by simp) rfl).1 ((hdep ⟨3, .data⟩ (by simp) rfl).2 8 rfl) rfl)
      refine wp_call 51 _ _ rfl (enters_of Tryz.func51 (by kernel_rfl) rfl) #[.int .u32 (x.s : Int), .int .u32 (y.s : Int)] (by simp only [List.map_toArray, List.map_cons, List.map_nil, e0, e1]) ?_
      exact fg_ret rfl rfl hI ((compareA_any (x.s : Int) (y.s : Int) v).mono fun e w' h => ⟨h.1, by rw [h.2]; exact GB.refl _⟩)
    · intro a v vs hI hold hdep
      exact fg_still (ex_field _ ⟨b2, 0, none⟩ (.tmp 2) 1 _ rfl (hold 2 (dl_of (L := [some 5, some 6, some 7, some 8, some 9, some 10, some 11, some 12, some 13, some 14, some 15, some 16, some 17, some 18, some 19, some 20, some 21, some 22, some 23, some 24, some 25, some 26, some 27, some 28, some 29, some 30, some 31, some 4]) (by decide))) (by kernel_rfl)) rfl rfl hI
    · intro a v vs hI hold hdep
      exact fg_still (ex_load _ ⟨b2, 1, none⟩ (.tmp 10) _ rfl (fg_dep (hdep ⟨5, .data⟩ (by simp) rfl).1 ((hdep ⟨5, .data⟩ (by simp) rfl).2 10 rfl) rfl) (ldA (HX.out v hI.1).2.2.1)) rfl rfl hI
    · intro a v vs hI hold hdep
      exact fg_still (ex_field _ ⟨b3, 0, none⟩ (.tmp 3) 1 _ rfl (hold 3 (dl_of (L := [some 5, some 6, some 7, some 8, some 9, some 10, some 11, some 12, some 13, some 14, some 15, some 16, some 17, some 18, some 19, some 20, some 21, some 22, some 23, some 24, some 25, some 26, some 27, some 28, some 29, some 30, some 31, some 4]) (by decide))) (by kernel_rfl)) rfl rfl hI
    · intro a v vs hI hold hdep
      exact fg_still (ex_load _ ⟨b3, 1, none⟩ (.tmp 12) _ rfl (fg_dep (hdep ⟨7, .data⟩ (by simp) rfl).1 ((hdep ⟨7, .data⟩ (by simp) rfl).2 12 rfl) rfl) (ldA (HX.out v hI.1).2.2.2.1)) rfl rfl hI
    · intro a v vs hI hold hdep
      have e0 : a.eval (.tmp 11) = .int .u32 (x.d : Int) := (fg_dep (hdep ⟨6, .data⟩ (by simp) rfl).1 ((hdep ⟨6, .data⟩ (by simp) rfl).2 11 rfl) rfl)
      have e1 : a.eval (.tmp 13) = .int .u32 (y.d : Int) := (fg_dep (hdep ⟨8, .data⟩ (by simp) rfl).1 ((hdep ⟨8, .data⟩ (by simp) rfl).2 13 rfl) rfl)
      refine wp_call 51 _ _ rfl (enters_of Tryz.func51 (by kernel_rfl) rfl) #[.int .u32 (x.d : Int), .int .u32 (y.d : Int)] (by simp only [List.map_toArray, List.map_cons, List.map_nil, e0, e1]) ?_
      exact fg_ret rfl rfl hI ((compareA_any (x.d : Int) (y.d : Int) v).mono fun e w' h => ⟨h.1, by rw [h.2]; exact GB.refl _⟩)
    · intro a v vs hI hold hdep
      exact fg_still (ex_field _ ⟨b2, 0, none⟩ (.tmp 2) 2 _ rfl (hold 2 (dl_of (L := [some 5, some 6, some 7, some 8, some 9, some 10, some 11, some 12, some 13, some 14, some 15, some 16, some 17, some 18, some 19, some 20, some 21, some 22, some 23, some 24, some 25, some 26, some 27, some 28, some 29, some 30, some 31, some 4]) (by decide))) (by kernel_rfl)) rfl rfl hI
    · intro a v vs hI hold hdep
      exact fg_still (ex_load _ ⟨b2, 2, none⟩ (.tmp 15) _ rfl (fg_dep (hdep ⟨10, .data⟩ (by simp) rfl).1 ((hdep ⟨10, .data⟩ (by simp) rfl).2 15 rfl) rfl) (ldB (HX.out v hI.1).2.2.2.2.1)) rfl rfl hI
    · intro a v vs hI hold hdep
      exact fg_still (ex_field _ ⟨b3, 0, none⟩ (.tmp 3) 2 _ rfl (hold 3 (dl_of (L := [some 5, some 6, some 7, some 8, some 9, some 10, some 11, some 12, some 13, some 14, some 15, some 16, some 17, some 18, some 19, some 20, some 21, some 22, some 23, some 24, some 25, some 26, some 27, some 28, some 29, some 30, some 31, some 4]) (by decide))) (by kernel_rfl)) rfl rfl hI
    · intro a v vs hI hold hdep
      exact fg_still (ex_load _ ⟨b3, 2, none⟩ (.tmp 17) _ rfl (fg_dep (hdep ⟨12, .data⟩ (by simp) rfl).1 ((hdep ⟨12, .data⟩ (by simp) rfl).2 17 rfl) rfl) (ldB (HX.out v hI.1).2.2.2.2.2.1)) rfl rfl hI
    · intro a v vs hI hold hdep
      have e0 : a.eval (.tmp 16) = .int .u8 (x.p : Int) := (fg_dep (hdep ⟨11, .data⟩ (by simp) rfl).1 ((hdep ⟨11, .data⟩ (by simp) rfl).2 16 rfl) rfl)
      have e1 : a.eval (.tmp 18) = .int .u8 (y.p : Int) := (fg_dep (hdep ⟨13, .data⟩ (by simp) rfl).1 ((hdep ⟨13, .data⟩ (by simp) rfl).2 18 rfl) rfl)
      refine wp_call 52 _ _ rfl (enters_of Tryz.func52 (by kernel_rfl) rfl) #[.int .u8 (x.p : Int), .int .u8 (y.p : Int)] (by simp only [List.map_toArray, List.map_cons, List.map_nil, e0, e1]) ?_
      exact fg_ret rfl rfl hI ((compareB_any (x.p : Int) (y.p : Int) v).mono fun e w' h => ⟨h.1, by rw [h.2]; exact GB.refl _⟩)
    · intro a v vs hI hold hdep
      exact fg_still (ex_field _ ⟨b2, 0, none⟩ (.tmp 2) 3 _ rfl (hold 2 (dl_of (L := [some 5, some 6, some 7, some 8, some 9, some 10, some 11, some 12, some 13, some 14, some 15, some 16, some 17, some 18, some 19, some 20, some 21, some 22, some 23, some 24, some 25, some 26, some 27, some 28, some 29, some 30, some 31, some 4]) (by decide))) (by kernel_rfl)) rfl rfl hI
    · intro a v vs hI hold hdep
      exact fg_still (ex_load _ ⟨b2, 3, none⟩ (.tmp 20) _ rfl (fg_dep (hdep ⟨15, .data⟩ (by simp) rfl).1 ((hdep ⟨15, .data⟩ (by simp) rfl).2 20 rfl) rfl) (ldP (HX.out v hI.1).2.2.2.2.2.2.1)) rfl rfl hI
    · intro a v vs hI hold hdep
      exact fg_still (ex_field _ ⟨b3, 0, none⟩ (.tmp 3) 3 _ rfl (hold 3 (dl_of (L := [some 5, some 6, some 7, some 8, some 9, some 10, some 11, some 12, some 13, some 14, some 15, some 16, some 17, some 18, some 19, some 20, some 21, some 22, some 23, some 24, some 25, some 26, some 27, some 28, some 29, some 30, some 31, some 4]) (by decide))) (by kernel_rfl)) rfl rfl hI
    · intro a v vs hI hold hdep
      exact fg_still (ex_load _ ⟨b3, 3, none⟩ (.tmp 22) _ rfl (fg_dep (hdep ⟨17, .data⟩ (by simp) rfl).1 ((hdep ⟨17, .data⟩ (by simp) rfl).2 22 rfl) rfl) (ldP (HX.out v hI.1).2.2.2.2.2.2.2.1)) rfl rfl hI
    · intro a v vs hI hold hdep
      have e0 : a.eval (.tmp 21) = .int .u16 (x.sp : Int) := (fg_dep (hdep ⟨16, .data⟩ (by simp) rfl).1 ((hdep ⟨16, .data⟩ (by simp) rfl).2 21 rfl) rfl)
      have e1 : a.eval (.tmp 23) = .int .u16 (y.sp : Int) := (fg_dep (hdep ⟨18, .data⟩ (by simp) rfl).1 ((hdep ⟨18, .data⟩ (by simp) rfl).2 23 rfl) rfl)
      refine wp_call 53 _ _ rfl (enters_of Tryz.func53 (by kernel_rfl) rfl) #[.int .u16 (x.sp : Int), .int .u16 (y.sp : Int)] (by simp only [List.map_toArray, List.map_cons, List.map_nil, e0, e1]) ?_
      exact fg_ret rfl rfl hI ((compareP_any (x.sp : Int) (y.sp : Int) v).mono fun e w' h => ⟨h.1, by rw [h.2]; exact GB.refl _⟩)
    · intro a v vs hI hold hdep
      exact fg_still (ex_field _ ⟨b2, 0, none⟩ (.tmp 2) 4 _ rfl (hold 2 (dl_of (L := [some 5, some 6, some 7, some 8, some 9, some 10, some 11, some 12, some 13, some 14, some 15, some 16, some 17, some 18, some 19, some 20, some 21, some 22, some 23, some 24, some 25, some 26, some 27, some 28, some 29, some 30, some 31, some 4]) (by decide))) (by kernel_rfl)) rfl rfl hI
    · intro a v vs hI hold hdep
      exact fg_still (ex_load _ ⟨b2, 4, none⟩ (.tmp 25) _ rfl (fg_dep (hdep ⟨20, .data⟩ (by simp) rfl).1 ((hdep ⟨20, .data⟩ (by simp) rfl).2 25 rfl) rfl) (ldP (HX.out v hI.1).2.2.2.2.2.2.2.2.1)) rfl rfl hI
    · intro a v vs hI hold hdep
      exact fg_still (ex_field _ ⟨b3, 0, none⟩ (.tmp 3) 4 _ rfl (hold 3 (dl_of (L := [some 5, some 6, some 7, some 8, some 9, some 10, some 11, some 12, some 13, some 14, some 15, some 16, some 17, some 18, some 19, some 20, some 21, some 22, some 23, some 24, some 25, some 26, some 27, some 28, some 29, some 30, some 31, some 4]) (by decide))) (by kernel_rfl)) rfl rfl hI
    · intro a v vs hI hold hdep
      exact fg_still (ex_load _ ⟨b3, 4, none⟩ (.tmp 27) _ rfl (fg_dep (hdep ⟨22, .data⟩ (by simp) rfl).1 ((hdep ⟨22, .data⟩ (by simp) rfl).2 27 rfl) rfl) (ldP (HX.out v hI.1).2.2.2.2.2.2.2.2.2)) rfl rfl hI
    · intro a v vs hI hold hdep
      have e0 : a.eval (.tmp 26) = .int .u16 (x.dp : Int) := (fg_dep (hdep ⟨21, .data⟩ (by simp) rfl).1 ((hdep ⟨21, .data⟩ (by simp) rfl).2 26 rfl) rfl)
      have e1 : a.eval (.tmp 28) = .int .u16 (y.dp : Int) := (fg_dep (hdep ⟨23, .data⟩ (by simp) rfl).1 ((hdep ⟨23, .data⟩ (by simp) rfl).2 28 rfl) rfl)
      refine wp_call 53 _ _ rfl (enters_of Tryz.func53 (by kernel_rfl) rfl) #[.int .u16 (x.dp : Int), .int .u16 (y.dp : Int)] (by simp only [List.map_toArray, List.map_cons, List.map_nil, e0, e1]) ?_
      exact fg_ret rfl rfl hI ((compareP_any (x.dp : Int) (y.dp : Int) v).mono fun e w' h => ⟨h.1, by rw [h.2]; exact GB.refl _⟩)
    · intro a v vs hI hold hdep
      have e0 : a.eval (.tmp 9) = .int .i64 (cmpI (x.s : Int) (y.s : Int)) := (fg_dep (hdep ⟨4, .data⟩ (by simp) rfl).1 ((hdep ⟨4, .data⟩ (by simp) rfl).2 9 rfl) rfl)
      have e1 : a.eval (.tmp 14) = .int .i64 (cmpI (x.d : Int) (y.d : Int)) := (fg_dep (hdep ⟨9, .data⟩ (by simp) rfl).1 ((hdep ⟨9, .data⟩ (by simp) rfl).2 14 rfl) rfl)
      have e2 : a.eval (.tmp 19) = .int .i64 (cmpI (x.p : Int) (y.p : Int)) := (fg_dep (hdep ⟨14, .data⟩ (by simp) rfl).1 ((hdep ⟨14, .data⟩ (by simp) rfl).2 19 rfl) rfl)
      have e3 : a.eval (.tmp 24) = .int .i64 (cmpI (x.sp : Int) (y.sp : Int)) := (fg_dep (hdep ⟨19, .data⟩ (by simp) rfl).1 ((hdep ⟨19, .data⟩ (by simp) rfl).2 24 rfl) rfl)
      have e4 : a.eval (.tmp 29) = .int .i64 (cmpI (x.dp : Int) (y.dp : Int)) := (fg_dep (hdep ⟨24, .data⟩ (by simp) rfl).1 ((hdep ⟨24, .data⟩ (by simp) rfl).2 29 rfl) rfl)
      exact fg_slice (ex_bslice _ 5 #[(0, .tmp 9), (1, .tmp 14), (2, .tmp 19), (3, .tmp 24), (4, .tmp 29)] #[(0, .int .i64 (cmpI (x.s : Int) (y.s : Int))), (1, .int .i64 (cmpI (x.d : Int) (y.d : Int))), (2, .int .i64 (cmpI (x.p : Int) (y.p : Int))), (3, .int .i64 (cmpI (x.sp : Int) (y.sp : Int))), (4, .int .i64 (cmpI (x.dp : Int) (y.dp : Int)))] rfl (by simp only [List.map_toArray, List.map_cons, List.map_nil, e0, e1, e2, e3, e4]) (build5I _ _ _ _ _ v)) rfl rfl hI
    · intro a v vs hI hold hdep
      obtain ⟨g, e0, hg⟩ := fg_depS (hdep ⟨25, .data⟩ (by simp) rfl).1 ((hdep ⟨25, .data⟩ (by simp) rfl).2 30 rfl) rfl
      refine wp_call 48 _ _ rfl (enters_of Tryz.func48 (by kernel_rfl) rfl) #[.slice (some ⟨g, 0, none⟩) 5 5] (by simp only [List.map_toArray, List.map_cons, List.map_nil, e0]; rfl) ?_
      exact fg_ret rfl rfl hI ((or_any g 5 5 _ v hg rfl (by omega)).mono fun e w' h => ⟨h.1, by rw [h.2]; exact GB.refl _⟩)
    · intro a v vs hI hold hdep
      exact fg_still (ex_assign (.tmp 31) _ rfl (fg_dep (hdep ⟨26, .data⟩ (by simp) rfl).1 ((hdep ⟨26, .data⟩ (by simp) rfl).2 31 rfl) rfl)) rfl rfl hI
  intro vs v hI hF
  have e0 := fg_is (hF 0 (by decide)) rfl
  have e1 := fg_is (hF 1 (by decide)) rfl
  have e2 := fg_is (hF 2 (by decide)) rfl
  have e3 := fg_is (hF 3 (by decide)) rfl
  have e4 := fg_is (hF 4 (by decide)) rfl
  have e5 := fg_is (hF 5 (by decide)) rfl
  have e6 := fg_is (hF 6 (by decide)) rfl
  have e7 := fg_is (hF 7 (by decide)) rfl
  have e8 := fg_is (hF 8 (by decide)) rfl
  have e9 := fg_is (hF 9 (by decide)) rfl
  have e10 := fg_is (hF 10 (by decide)) rfl
  have e11 := fg_is (hF 11 (by decide)) rfl
  have e12 := fg_is (hF 12 (by decide)) rfl
  have e13 := fg_is (hF 13 (by decide)) rfl
  have e14 := fg_is (hF 14 (by decide)) rfl
  have e15 := fg_is (hF 15 (by decide)) rfl
  have e16 := fg_is (hF 16 (by decide)) rfl
  have e17 := fg_is (hF 17 (by decide)) rfl
  have e18 := fg_is (hF 18 (by decide)) rfl
  have e19 := fg_is (hF 19 (by decide)) rfl
  have e20 := fg_is (hF 20 (by decide)) rfl
  have e21 := fg_is (hF 21 (by decide)) rfl
  have e22 := fg_is (hF 22 (by decide)) rfl
  have e23 := fg_is (hF 23 (by decide)) rfl
  have e24 := fg_is (hF 24 (by decide)) rfl
  obtain ⟨g, e25, -⟩ := fg_isS (hF 25 (by decide)) rfl
  have e26 := fg_is (hF 26 (by decide)) rfl
  have e27 := fg_is (hF 27 (by decide)) rfl
  clear hF
  simp only [putsO, List.range, List.range.loop, List.foldr, if_true, List.getD_cons_zero, List.getD_cons_succ, e0, e1, e2, e3, e4, e5, e6, e7, e8, e9, e10, e11, e12, e13, e14, e15, e16, e17, e18, e19, e20, e21, e22, e23, e24, e25, e26, e27, Act.put, List.setIfInBounds_toArray, List.set_cons_zero, List.set_cons_succ]
  clear e0 e1 e2 e3 e4 e5 e6 e7 e8 e9 e10 e11 e12 e13 e14 e15 e16 e17 e18 e19 e20 e21 e22 e23 e24 e25 e26 e27
  go_wp2_with fail
  go_ret
  exact ⟨rfl, HB.out.trans hI⟩

theorem byThere_any (x y : Fw) (w : World) : Calls Tryz.prog 18 #[.agg x.cells, .agg y.cells] w fun e w' => e = .returned (.int .i64 (cmpTh x y)) ∧ GB w w' := by
  obtain ⟨u, HU⟩ : ∃ u, Hid (u = (w.alloc (.cells x.cells 45)).alloc (.cells y.cells 45)) := ⟨_, rfl⟩
  have HB : Hid (GB w u) := grow_gb (q := 0) (by rw [HU.out, Sort.alloc_eq_grow, Sort.alloc_eq_grow, Sort.grow_grow]; rfl)
  have r1 : u.heap[w.heap.size]? = some (.cells x.cells 45 (0, 0)) := by
    rw [HU.out, Below.heap_alloc _ _ _ (by simp)]
    exact heap_alloc_new w _
  have r2 : u.heap[w.heap.size + 1]? = some (.cells y.cells 45 (0, 0)) := by
    rw [HU.out]
    have := heap_alloc_new (w.alloc (.cells x.cells 45)) (.cells y.cells 45)
    simpa using this
  obtain ⟨b2, HB2⟩ : ∃ b, Hid (b = w.heap.size) := ⟨_, rfl⟩
  obtain ⟨b3, HB3⟩ : ∃ b, Hid (b = w.heap.size + 1) := ⟨_, rfl⟩
  rw [← HB2.out] at r1
  rw [← HB3.out] at r2
  have HL1 := hid (load_th r1)
  have HL2 := hid (load_th r2)
  have HC := hid (compare_any x.th y.th u)
  clear r1 r2
  go_enter Tryz.func18, Tryz.ntmps18
  go_upto_region 1 with fail
  rw [← HU.out, ← HB3.out, ← HB2.out]
  go_wp2_with (first | (refine wpList_ld 37 ⟨b2, 0, none⟩ (.tmp 5) rfl rfl HL1.out rfl ?_) | (refine wpList_ld 37 ⟨b3, 0, none⟩ (.tmp 7) rfl rfl HL2.out rfl ?_) | fail)
  refine HC.out.mono ?_
  rintro _ w1 ⟨rfl, hg1⟩
  have HG1 := hid hg1
  clear hg1
  go_wp2_with fail
  go_ret
  exact ⟨rfl, HB.out.trans HG1.out⟩

theorem byThere_grow (x y : Fw) (w : World) : Calls Tryz.prog 18 #[.agg x.cells, .agg y.cells] w fun e w' => e = .returned (.int .i64 (cmpTh x y)) ∧ ∃ q os', w' = Sort.grow (w.drewN q) os' :=
  (byThere_any x y w).mono fun _ _ h => ⟨h.1, gb_grow h.2⟩

theorem byEnd_any (x y : Fw) (w : World) : Calls Tryz.prog 29 #[.agg x.cells, .agg y.cells] w fun e w' => e = .returned (.int .i64 (cmpEn x y)) ∧ ∃ q os', w' = Sort.grow (w.drewN q) os' := by
  obtain ⟨u, HU⟩ : ∃ u, Hid (u = (w.alloc (.cells x.cells 45)).alloc (.cells y.cells 45)) := ⟨_, rfl⟩
  have HB : Hid (GB w u) := grow_gb (q := 0) (by rw [HU.out, Sort.alloc_eq_grow, Sort.alloc_eq_grow, Sort.grow_grow]; rfl)
  have r1 : u.heap[w.heap.size]? = some (.cells x.cells 45 (0, 0)) := by
    rw [HU.out, Below.heap_alloc _ _ _ (by simp)]
    exact heap_alloc_new w _
  have r2 : u.heap[w.heap.size + 1]? = some (.cells y.cells 45 (0, 0)) := by
    rw [HU.out]
    have := heap_alloc_new (w.alloc (.cells x.cells 45)) (.cells y.cells 45)
    simpa using this
  obtain ⟨b2, HB2⟩ : ∃ b, Hid (b = w.heap.size) := ⟨_, rfl⟩
  obtain ⟨b3, HB3⟩ : ∃ b, Hid (b = w.heap.size + 1) := ⟨_, rfl⟩
  rw [← HB2.out] at r1
  rw [← HB3.out] at r2
  have HX : Hid (∀ v : World, Below u.heap.size u v → v.cell? ⟨b2, 11, none⟩ = some (.int .i64 x.til) ∧ v.cell? ⟨b3, 11, none⟩ = some (.int .i64 y.til) ∧ v.heap[b2]? = some (.cells x.cells 45 (0, 0)) ∧ v.heap[b3]? = some (.cells y.cells 45 (0, 0))) := fun v hv => by
    have q1 := below_keeps hv r1 (Array.getElem?_eq_some_iff.1 r1).1
    have q2 := below_keeps hv r2 (Array.getElem?_eq_some_iff.1 r2).1
    exact ⟨(ce_fw q1).2.2, (ce_fw q2).2.2, q1, q2⟩
  have HE := hid (cmpEn_eq x y)
  generalize cmpEn x y = ce at *
  clear r1 r2
  go_enter Tryz.func29, Tryz.ntmps29
  go_upto_region 1 with fail
  rw [← HU.out, ← HB3.out, ← HB2.out]
  refine wp_region_all' 11 (fun i => ([some 5, some 6, some 7, some 8, some 9, some 10, some 11, some 12, some 13, some 14, some 4] : List (Option Tmp)).getD i none) (FG [.inl (.pointer (some ⟨b2, 11, none⟩)), .inl (.int .i64 x.til), .inl (.pointer (some ⟨b3, 11, none⟩)), .inl (.int .i64 y.til), .inl (.int .i64 (cmpI x.til y.til)), .inl (.agg x.cells), .inl (.agg y.cells), .inl (.int .i64 (cmpTh x y)), .inr [cmpI x.til y.til, cmpTh x y], .inl (.int .i64 ce), .inl (.int .i64 ce)]) (fun v => GB u v) (fun _ v v' => GB v v') (by kernel_rfl) (by kernel_rfl) ⟨⟨rfl, rfl, rfl, Nat.le_refl _, fun _ _ => rfl⟩, Nat.le_succ _⟩ (fun i j _ vs v _ _ hij _ _ hF _ hr => FG.keeps hij hF hr) ?_ ?_
  · simp only [N.stepsAll]
    refine ⟨?_, ?_, ?_, ?_, ?_, ?_, ?_, ?_, ?_, ?_, ?_, trivial⟩
    · intro a v vs hI hold hdep
      exact fg_still (ex_field _ ⟨b2, 0, none⟩ (.tmp 2) 3 _ rfl (hold 2 (dl_of (L := [some 5, some 6, some 7, some 8, some 9, some 10, some 11, some 12, some 13, some 14, some 4]) (by decide))) (by kernel_rfl)) rfl rfl hI
    · intro a v vs hI hold hdep
      exact fg_still (ex_load _ ⟨b2, 11, none⟩ (.tmp 5) _ rfl (fg_dep (hdep ⟨0, .data⟩ (by simp) rfl).1 ((hdep ⟨0, .data⟩ (by simp) rfl).2 5 rfl) rfl) (ldI (HX.out v hI.1).1)) rfl rfl hI
    · intro a v vs hI hold hdep
      exact fg_still (ex_field _ ⟨b3, 0, none⟩ (.tmp 3) 3 _ rfl (hold 3 (dl_of (L := [some 5, some 6, some 7, some 8, some 9, some 10, some 11, some 12, some 13, some 14, some 4]) (by decide))) (by kernel_rfl)) rfl rfl hI
    · intro a v vs hI hold hdep
      exact fg_still (ex_load _ ⟨b3, 11, none⟩ (.tmp 7) _ rfl (fg_dep (hdep ⟨2, .data⟩ (by simp) rfl).1 ((hdep ⟨2, .data⟩ (by simp) rfl).2 7 rfl) rfl) (ldI (HX.out v hI.1).2.1)) rfl rfl hI
    · intro a v vs hI hold hdep
      have e0 : a.eval (.tmp 6) = .int .i64 x.til := (fg_dep (hdep ⟨1, .data⟩ (by simp) rfl).1 ((hdep ⟨1, .data⟩ (by simp) rfl).2 6 rfl) rfl)
      have e1 : a.eval (.tmp 8) = .int .i64 y.til := (fg_dep (hdep ⟨3, .data⟩ (by simp) rfl).1 ((hdep ⟨3, .data⟩ (by simp) rfl).2 8 rfl) rfl)
      refine wp_call 49 _ _ rfl (enters_of Tryz.func49 (by kernel_rfl) rfl) #[.int .i64 x.til, .int .i64 y.til] (by simp only [List.map_toArray, List.map_cons, List.map_nil, e0, e1]) ?_
      exact fg_ret rfl rfl hI ((compareI_any x.til y.til v).mono fun e w' h => ⟨h.1, by rw [h.2]; exact GB.refl _⟩)
    · intro a v vs hI hold hdep
      exact fg_still (ex_load _ ⟨b2, 0, none⟩ (.tmp 2) _ rfl (hold 2 (dl_of (L := [some 5, some 6, some 7, some 8, some 9, some 10, some 11, some 12, some 13, some 14, some 4]) (by decide))) (load_fw (HX.out v hI.1).2.2.1)) rfl rfl hI
    · intro a v vs hI hold hdep
      exact fg_still (ex_load _ ⟨b3, 0, none⟩ (.tmp 3) _ rfl (hold 3 (dl_of (L := [some 5, some 6, some 7, some 8, some 9, some 10, some 11, some 12, some 13, some 14, some 4]) (by decide))) (load_fw (HX.out v hI.1).2.2.2)) rfl rfl hI
    · intro a v vs hI hold hdep
      have e0 : a.eval (.tmp 10) = .agg x.cells := (fg_dep (hdep ⟨5, .data⟩ (by simp) rfl).1 ((hdep ⟨5, .data⟩ (by simp) rfl).2 10 rfl) rfl)
      have e1 : a.eval (.tmp 11) = .agg y.cells := (fg_dep (hdep ⟨6, .data⟩ (by simp) rfl).1 ((hdep ⟨6, .data⟩ (by simp) rfl).2 11 rfl) rfl)
      refine wp_call 18 _ _ rfl (enters_of Tryz.func18 (by kernel_rfl) rfl) #[.agg x.cells, .agg y.cells] (by simp only [List.map_toArray, List.map_cons, List.map_nil, e0, e1]) ?_
      exact fg_ret rfl rfl hI (byThere_any x y v)
    · intro a v vs hI hold hdep
      have e0 : a.eval (.tmp 9) = .int .i64 (cmpI x.til y.til) := (fg_dep (hdep ⟨4, .data⟩ (by simp) rfl).1 ((hdep ⟨4, .data⟩ (by simp) rfl).2 9 rfl) rfl)
      have e1 : a.eval (.tmp 12) = .int .i64 (cmpTh x y) := (fg_dep (hdep ⟨7, .data⟩ (by simp) rfl).1 ((hdep ⟨7, .data⟩ (by simp) rfl).2 12 rfl) rfl)
      exact fg_slice (ex_bslice _ 2 #[(0, .tmp 9), (1, .tmp 12)] #[(0, .int .i64 (cmpI x.til y.til)), (1, .int .i64 (cmpTh x y))] rfl (by simp only [List.map_toArray, List.map_cons, List.map_nil, e0, e1]) (build2I _ _ v)) rfl rfl hI
    · intro a v vs hI hold hdep
      obtain ⟨g, e0, hg⟩ := fg_depS (hdep ⟨8, .data⟩ (by simp) rfl).1 ((hdep ⟨8, .data⟩ (by simp) rfl).2 13 rfl) rfl
      refine wp_call 48 _ _ rfl (enters_of Tryz.func48 (by kernel_rfl) rfl) #[.slice (some ⟨g, 0, none⟩) 2 2] (by simp only [List.map_toArray, List.map_cons, List.map_nil, e0]; rfl) ?_
      exact fg_ret rfl rfl hI ((or_any g 2 2 _ v hg rfl (by omega)).mono fun e w' h => ⟨by rw [h.1, HE.out], by rw [h.2]; exact GB.refl _⟩)
    · intro a v vs hI hold hdep
      exact fg_still (ex_assign (.tmp 14) _ rfl (fg_dep (hdep ⟨9, .data⟩ (by simp) rfl).1 ((hdep ⟨9, .data⟩ (by simp) rfl).2 14 rfl) rfl)) rfl rfl hI
  intro vs v hI hF
  have e0 := fg_is (hF 0 (by decide)) rfl
  have e1 := fg_is (hF 1 (by decide)) rfl
  have e2 := fg_is (hF 2 (by decide)) rfl
  have e3 := fg_is (hF 3 (by decide)) rfl
  have e4 := fg_is (hF 4 (by decide)) rfl
  have e5 := fg_is (hF 5 (by decide)) rfl
  have e6 := fg_is (hF 6 (by decide)) rfl
  have e7 := fg_is (hF 7 (by decide)) rfl
  obtain ⟨g, e8, -⟩ := fg_isS (hF 8 (by decide)) rfl
  have e9 := fg_is (hF 9 (by decide)) rfl
  have e10 := fg_is (hF 10 (by decide)) rfl
  clear hF
  simp only [putsO, List.range, List.range.loop, List.foldr, if_true, List.getD_cons_zero, List.getD_cons_succ, e0, e1, e2, e3, e4, e5, e6, e7, e8, e9, e10, Act.put, List.setIfInBounds_toArray, List.set_cons_zero, List.set_cons_succ]
  clear e0 e1 e2 e3 e4 e5 e6 e7 e8 e9 e10
  go_wp2_with fail
  go_ret
  exact ⟨rfl, gb_grow (HB.out.trans hI)⟩
end Go.Proofs.YtkkfioebpppffaaGreatDoor.Fl
