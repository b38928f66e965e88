import Derived.Test.YthpokoiclfbddaaDoorYNqF
import Derived.Laws.Bits64b
import Derived.Shelf.Spec.TrailingZeros
import Derived.Ground.Names7Prog
namespace Go.Proofs.YthpokoiclfbddaaDoor.Nq
open Go.Proofs.YthpokoiclfbddaaDoor Go.ChangeShapes Go.WideShapes Go.ChangeAt Go.RowKit Go.Maps Fl
open Go.Proofs.YthpokoiclfbddaaDoor.N hiding But But.set But.of_below But.refl But.trans But.below But.drew wpList_ld
open Go.Shelf
set_option maxHeartbeats 2000000
set_option maxRecDepth 100000
shelf_lay Lays7.n29 Nm7 29 at Tryd as Tryd.layTz

def psC (W : List Nat) (c : Int) : Array Value := ((W.map fun (x : Nat) => Value.int .u64 (x : Int)) ++ [Value.int .i64 c]).toArray
structure PsW (W : List Nat) : Prop where
  len : W.length = 1024
  lt : ∀ x ∈ W, x < 18446744073709551616
theorem PsW.at {W : List Nat} (h : PsW W) (i : Nat) : W.getD i 0 < 18446744073709551616 := by
  rw [List.getD_eq_getElem?_getD]
  cases hx : W[i]? with
  | none => simp
  | some x => exact h.lt x (List.mem_of_getElem? hx)
/-- A set at block b. -/
def PsAt (w : World) (b : Nat) (W : List Nat) (c : Int) : Prop := w.heap[b]? = some (.cells (psC W c) 76 (0, 0))
section
variable {w w' : World} {b : Nat} {W : List Nat} {c : Int}
theorem PsAt.lt (h : PsAt w b W c) : b < w.heap.size := (Array.getElem?_eq_some_iff.1 h).1
theorem PsAt.word (h : PsAt w b W c) {i : Nat} (hi : i < W.length) : w.cell? ⟨b, i, none⟩ = some (.int .u64 ((W.getD i 0 : Nat) : Int)) := by
  rw [cell_of_row _ _ _ _ _ _ h]
  simp [psC, List.getElem?_append, hi, List.getD_eq_getElem?_getD]
theorem PsAt.count (h : PsAt w b W c) (hl : PsW W) : w.cell? ⟨b, 1024, none⟩ = some (.int .i64 c) := by
  rw [cell_of_row _ _ _ _ _ _ h]
  simp [psC, hl.len]
theorem PsAt.free (h : PsAt w b W c) (i : Nat) : w.frozen? ⟨b, i, none⟩ = false := frozen_of_row _ _ _ _ _ h
theorem PsAt.at (h : PsAt w b W c) (e : w'.heap[b]? = w.heap[b]?) : PsAt w' b W c := e.trans h
theorem PsAt.setW (h : PsAt w b W c) {i : Nat} (hi : i < W.length) (x : Nat) : PsAt (w.setCell ⟨b, i, none⟩ (.int .u64 (x : Int))) b (W.set i x) c := by
  unfold PsAt at *
  simp only [World.setCell, Array.getElem?_modify, h]
  simp [psC, List.map_set, hi]
theorem PsAt.setC (h : PsAt w b W c) (hl : PsW W) (x : Int) : PsAt (w.setCell ⟨b, 1024, none⟩ (.int .i64 x)) b W x := by
  unfold PsAt at *
  simp only [World.setCell, Array.getElem?_modify, h]
  simp [psC, hl.len]
end
theorem ps_fl (b : Nat) (u : World) : (Instr.fieldAt 76 (.pointer (some ⟨b, 0, none⟩)) 0).run Tryd.prog u = .ok (.pointer (some ⟨b, 0, none⟩)) u ∧ (Instr.fieldAt 76 (.pointer (some ⟨b, 0, none⟩)) 1).run Tryd.prog u = .ok (.pointer (some ⟨b, 1024, none⟩)) u := by
  constructor <;> kernel_rfl
/-- Is the port taken? -/
def tk (W : List Nat) (p : Nat) : Bool := (W.getD (p / 64) 0).testBit (p % 64)
theorem tdiv64 (p : Nat) : (p : Int).tdiv 64 = ((p / 64 : Nat) : Int) := (Int.ofNat_tdiv p 64).symm
theorem tmod64 (p : Nat) : (p : Int).tmod 64 = ((p % 64 : Nat) : Int) := (Int.ofNat_tmod p 64).symm
theorem div_pow (x k : Nat) : (x : Int) / 2 ^ k = ((x / 2 ^ k : Nat) : Int) := by
  rw [Int.natCast_ediv, Int.natCast_pow]; rfl
section
variable {o : Oper} {a : Act} {w : World}
theorem ex_quo64 (x y : Operand) (T' : TypeId) (p : Nat) (ho : o.op = .binOp .quo 3 x y T') (hx : a.eval x = .int .i64 (p : Int)) (hy : a.eval y = .int .i64 64) (hp : p < 65536) : (execOp a.eval o).run Tryd.prog w = .ok (.value (.int .i64 ((p / 64 : Nat) : Int))) w := by
  have e := tdiv64 p
  have hw : IntKind.i64.wrap ((p / 64 : Nat) : Int) = ((p / 64 : Nat) : Int) := by rw [IntKind.wrap_i64]; omega
  generalize p / 64 = q at *
  unfold execOp
  simp only [ho, hx, hy]
  simp [eqGuard, binOp, go_sem, e, hw]
theorem ex_rem64 (x y : Operand) (T' : TypeId) (p : Nat) (ho : o.op = .binOp .rem 3 x y T') (hx : a.eval x = .int .i64 (p : Int)) (hy : a.eval y = .int .i64 64) : (execOp a.eval o).run Tryd.prog w = .ok (.value (.int .i64 ((p % 64 : Nat) : Int))) w := by
  have e := tmod64 p
  generalize p % 64 = q at *
  unfold execOp
  simp only [ho, hx, hy]
  simp [eqGuard, binOp, go_sem, e]
theorem ex_shl1 (x y : Operand) (T' : TypeId) (k : Nat) (hk : k < 64) (ho : o.op = .binOp .shl 73 x y T') (hx : a.eval x = .int .u64 1) (hy : a.eval y = .int .i64 (k : Int)) : (execOp a.eval o).run Tryd.prog w = .ok (.value (.int .u64 ((2 ^ k : Nat) : Int))) w := by
  have hlt : 2 ^ k < 2 ^ 64 := Nat.pow_lt_pow_right (by omega) hk
  have hw : IntKind.u64.wrap ((2 : Int) ^ k) = ((2 ^ k : Nat) : Int) := by
    have e : ((2 ^ k : Nat) : Int) = (2 : Int) ^ k := by rw [Int.natCast_pow]; rfl
    rw [IntKind.wrap_u64, ← e]
    generalize 2 ^ k = z at *
    omega
  unfold execOp
  simp only [ho, hx, hy]
  simp [eqGuard, binOp, go_sem, hw]
theorem ex_shrV (x y : Operand) (T' : TypeId) (i k : Nat) (hk : k < 64) (ho : o.op = .binOp .shr 73 x y T') (hx : a.eval x = .int .u64 (i : Int)) (hy : a.eval y = .int .i64 (k : Int)) : (execOp a.eval o).run Tryd.prog w = .ok (.value (.int .u64 ((i / 2 ^ k : Nat) : Int))) w := by
  have e := div_pow i k
  rw [← e]
  unfold execOp
  simp only [ho, hx, hy]
  simp [eqGuard, binOp, go_sem]
theorem ex_and1 (x y : Operand) (T' : TypeId) (i : Nat) (hi : i < 18446744073709551616) (ho : o.op = .binOp .and 73 x y T') (hx : a.eval x = .int .u64 (i : Int)) (hy : a.eval y = .int .u64 1) : (execOp a.eval o).run Tryd.prog w = .ok (.value (.int .u64 ((i % 2 : Nat) : Int))) w := by
  have ha : bits .and .u64 (i : Int) 1 = ((i % 2 : Nat) : Int) := by
    have := bits_and_u64_nat i 1 hi (by decide)
    rw [Nat.and_one_is_mod] at this
    exact this
  generalize i % 2 = r at *
  unfold execOp
  simp only [ho, hx, hy]
  simp [eqGuard, binOp, go_sem, ha]
theorem ex_xorW (x y : Operand) (T' : TypeId) (i j : Nat) (hi : i < 18446744073709551616) (hj : j < 18446744073709551616) (ho : o.op = .binOp .xor 73 x y T') (hx : a.eval x = .int .u64 (i : Int)) (hy : a.eval y = .int .u64 (j : Int)) : (execOp a.eval o).run Tryd.prog w = .ok (.value (.int .u64 ((i ^^^ j : Nat) : Int))) w := by
  have hb := bits_xor_u64_nat i j hi hj
  generalize i ^^^ j = r at *
  unfold execOp
  simp only [ho, hx, hy]
  simp [eqGuard, binOp, go_sem, hb]
theorem idxS {b i : Nat} (h : i < 1024) (u : World) : (Instr.indexAt 74 (.pointer (some ⟨b, 0, none⟩)) (.int .i64 (i : Int))).run Tryd.prog u = .ok (.pointer (some ⟨b, i, none⟩)) u := by
  have h2 : (i : Int) < 1024 := by omega
  simp [go_sem, Tryd.underlying74, h2, Addr.add, Tryd.sizeOf73]
  exact fun h => h.symm
theorem ldW {u : World} {p : Addr} {x : Int} (h : u.cell? p = some (.int .u64 x)) : (Instr.loadAt 73 (.pointer (some p))).run Tryd.prog u = .ok (.int .u64 x) u := by simp [go_sem, h]
end
theorem has_any (b p : Nat) (W : List Nat) (c : Int) (w : World) (h : PsAt w b W c) (hW : PsW W) (hp : p < 65536) :
    Calls Tryd.prog 24 #[.pointer (some ⟨b, 0, none⟩), .int .i64 (p : Int)] w fun e w' => e = .returned (.bool (tk W p)) ∧ w' = w := by
  have ce := h.word (i := p / 64) (by rw [hW.len]; omega)
  have e1 : (p : Int) / 64 = ((p / 64 : Nat) : Int) := by omega
  have e2 := tdiv64 p
  have e3 := tmod64 p
  have hi1 : ((p / 64 : Nat) : Int) < 1024 := by omega
  have hi2 : (0 : Int) ≤ ((p / 64 : Nat) : Int) := by omega
  have hi3 : (0 : Int) ≤ ((p % 64 : Nat) : Int) := by omega
  have hi4 : ((p % 64 : Nat) : Int) < 64 := by omega
  have hx := hW.at (p / 64)
  have HT : Hid (tk W p = decide ((W.getD (p / 64) 0) / 2 ^ (p % 64) % 2 = 1)) := by unfold Hid tk; rw [Nat.testBit_eq_decide_div_mod_eq]
  generalize tk W p = r at *
  generalize p / 64 = i at *
  generalize p % 64 = k at *
  generalize W.getD i 0 = x at *
  have HK : Hid (k < 64) := hid (by omega)
  have hx2 : x / 2 ^ k < 18446744073709551616 := Nat.lt_of_le_of_lt (Nat.div_le_self _ _) hx
  have hq1 : (((x : Int) / 2 ^ k % 2) == 1) = r := by
    rw [div_pow, HT.out]
    generalize x / 2 ^ k = y
    have ey : (y : Int) % 2 = ((y % 2 : Nat) : Int) := by omega
    rw [ey]
    rcases Nat.mod_two_eq_zero_or_one y with e | e <;> rw [e] <;> rfl
  have HX2 := hid hx2
  clear h hW hp hx HT hx2
  go_enter Tryd.func24, Tryd.ntmps24
  go_wp2_with (first | (refine wpList_val (ex_shrV (.tmp 11) (.tmp 13) _ x k HK.out rfl rfl rfl) rfl ?_) | (refine wpList_val (ex_and1 (.tmp 14) (.const (.int .u64 1)) _ (x / 2 ^ k) HX2.out rfl rfl rfl) rfl ?_) | fail)
  go_ret
  exact ⟨by first | rfl | (simp only [hq1]; rfl), rfl⟩

/-! ### one port is turned -/
def flip (W : List Nat) (p : Nat) : List Nat := W.set (p / 64) ((W.getD (p / 64) 0) ^^^ 2 ^ (p % 64))
theorem flip_ok {W : List Nat} (h : PsW W) (p : Nat) : PsW (flip W p) := by
  refine ⟨by rw [flip, List.length_set]; exact h.len, fun x hx => ?_⟩
  rcases List.mem_or_eq_of_mem_set hx with hx | rfl
  · exact h.lt x hx
  · refine xor64 (h.at _) ?_
    have : 2 ^ (p % 64) ≤ 2 ^ 63 := Nat.pow_le_pow_right (by omega) (by omega)
    omega
theorem tk_flip {W : List Nat} (h : PsW W) {p q : Nat} (hp : p < 65536) : tk (flip W p) q = if q = p then !tk W p else tk W q := by
  unfold tk flip
  rw [List.getD_eq_getElem?_getD, List.getD_eq_getElem?_getD, List.getD_eq_getElem?_getD]
  have hl : p / 64 < W.length := by rw [h.len]; omega
  by_cases e : q / 64 = p / 64
  · rw [e, List.getElem?_set_self hl]
    simp only [Option.getD_some]
    rw [Nat.testBit_xor, Nat.testBit_two_pow]
    by_cases e2 : p % 64 = q % 64
    · have : q = p := by omega
      subst this
      simp
    · have : q ≠ p := fun h => e2 (by rw [h])
      simp [e2, this]
  · have : q ≠ p := fun h => e (by rw [h])
    rw [List.getElem?_set_ne (fun h => e h.symm), if_neg this]
end Go.Proofs.YthpokoiclfbddaaDoor.Nq
