import Derived.Test.YtkkfioebpppffaaGreatDoorEM
import Derived.Deep.DeepHandedRow
import Derived.Lib.LaidTab
import Derived.Stop.LaidErr
namespace Go.Proofs.YtkkfioebpppffaaGreatDoor.Fl
open Go.Proofs.YtkkfioebpppffaaGreatDoor Go.ChangeShapes Go.WideShapes Go.ChangeAt Go.RowKit N
set_option maxRecDepth 100000

section
variable {H : Type} {enc : TypeId × Value → H} {W : World} {sp : Nat → Bool} {held : Bool}
theorem ints_of {T e : TypeId} {k : IntKind} {n fuel : Nat} {cs : List Value} {L : List Int} {p : List MemPlace} (hu : Tryz.prog.underlying T = some (.array n e)) (he : Tryz.prog.underlying e = some (.int k)) (hc : Tryz.prog.cellsOf e = 1) (hT : Tryz.prog.cellsOf T = n) (hL : L.length = n)
    (h : DataW.trod enc Tryz.prog W 0 sp held fuel T cs = some (.agg (L.map fun x => .lit (.int k x)), p)) : cs = L.map (Value.int k) := by
  obtain ⟨xs, m, _, hx, hl, hxl, hall⟩ := DataW.trod_array hu h
  rw [hT] at hl
  rw [hc] at hall
  have hxs : xs.map (·.1) = L.map fun x => .lit (.int k x) := by
    have := congrArg Prod.fst hx
    simp at this
    exact this.symm
  apply List.ext_getElem?
  intro i
  by_cases hi : i < n
  · have hg := hall i hi
    obtain ⟨y, hy⟩ : ∃ y, xs[i]? = some y := ⟨_, List.getElem?_eq_getElem (by omega)⟩
    obtain ⟨z, hz⟩ : ∃ z, L[i]? = some z := ⟨_, List.getElem?_eq_getElem (by omega)⟩
    have h1 : y.1 = .lit (.int k z) := by
      have := congrArg (·[i]?) hxs
      simp [hy, hz] at this
      exact this
    obtain ⟨c, hcx⟩ : ∃ c, cs[i]? = some c := ⟨_, List.getElem?_eq_getElem (by omega)⟩
    have hd : (cs.drop (i * 1)).take 1 = [c] := by
      obtain ⟨hlt, hce⟩ := List.getElem?_eq_some_iff.1 hcx
      rw [Nat.mul_one, List.drop_eq_getElem_cons hlt, hce]
      rfl
    rw [hd, hy] at hg
    obtain ⟨z2, e2, e3, _⟩ := DataW.trod_int he hg
    rw [hcx, List.getElem?_map, hz]
    simp at e2
    rw [e2]
    rw [e3] at h1
    simp at h1
    simp [h1]
  · rw [List.getElem?_eq_none (by omega), List.getElem?_eq_none (by simp; omega)]
theorem u8q : Tryz.prog.underlying 5 = some (.int .u8) := by kernel_rfl
theorem i64q : Tryz.prog.underlying 2 = some (.int .i64) := by kernel_rfl
theorem undMv : Tryz.prog.underlying 137 = some (.array 6 5) := by kernel_rfl
theorem undSp : Tryz.prog.underlying 134 = some (.array 10 2) := by kernel_rfl
theorem undTn : Tryz.prog.underlying 139 = some (.array 10 138) := by kernel_rfl
theorem undTs : ∃ f0 f1, Tryz.prog.underlying 138 = some (.struct #[f0, f1]) ∧ f0.type = 137 ∧ f0.offset = 0 ∧ f1.type = 137 ∧ f1.offset = 6 := ⟨_, _, Tryz.underlying138, rfl, rfl, rfl, rfl⟩
theorem row12 {fuel : Nat} {cs : List Value} {L M : List Int} {p : List MemPlace} (hL : L.length = 6) (hM : M.length = 6) (h : DataW.trod enc Tryz.prog W 0 sp held fuel 138 cs = some (.agg [.agg (L.map fun x => .lit (.int .u8 x)), .agg (M.map fun x => .lit (.int .u8 x))], p)) : cs = (L ++ M).map (Value.int .u8) := by
  obtain ⟨f0, f1, hu, t0, o0, t1, o1⟩ := undTs
  obtain ⟨y0, y1, n, hx, hl, g0, g1⟩ := trod_struct2 hu h
  have cM : Tryz.prog.cellsOf 137 = 6 := by kernel_rfl
  have cS : Tryz.prog.cellsOf 138 = 12 := by kernel_rfl
  rw [t0, o0, cM] at g0
  rw [t1, o1, cM] at g1
  rw [cS] at hl
  obtain ⟨d0, q0⟩ := y0
  obtain ⟨d1, q1⟩ := y1
  simp at hx
  obtain ⟨⟨rfl, rfl⟩, _⟩ := hx
  have e0 := ints_of undMv u8q (by kernel_rfl) cM hL g0
  have e1 := ints_of undMv u8q (by kernel_rfl) cM hM g1
  rw [List.map_append, ← e0, ← e1, List.drop_zero, List.take_of_length_le (l := cs.drop 6) (by simp; omega), List.take_append_drop]
end
end Go.Proofs.YtkkfioebpppffaaGreatDoor.Fl
