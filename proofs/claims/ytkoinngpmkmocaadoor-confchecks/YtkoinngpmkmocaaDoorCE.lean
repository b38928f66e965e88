import Derived.Test.YtkoinngpmkmocaaDoorCD
import Derived.Maps.OwnSet
import Derived.Maps.AppendAt
namespace Go.Proofs.YtkoinngpmkmocaaDoor
open Go.ChangeShapes Go.WideShapes Go.ChangeAt Go.RowKit Go.Maps
set_option maxHeartbeats 400000
set_option maxRecDepth 100000

/-- A reserved subnet: the host, the address, the length. -/
abbrev Rsv := Int × Nat × Int

/-- The slice value v shows, in the world w, the reserved subnets R. -/
def SeesV (w : World) (v : Value) (R : List Rsv) : Prop :=
  ∃ ao cap, v = .slice ao R.length cap ∧ R.length ≤ cap ∧ cap ≤ maxLen ∧
    ∀ j (h : j < R.length), ∃ g off, ao = some ⟨g, off, none⟩ ∧ g < w.heap.size ∧ w.cell? ⟨g, off + j * 3, none⟩ = some (.int .i64 R[j].1) ∧ w.cell? ⟨g, off + j * 3 + 1, none⟩ = some (.int .u32 (R[j].2.1 : Int)) ∧ w.cell? ⟨g, off + j * 3 + 2, none⟩ = some (.int .i64 R[j].2.2) ∧ R[j].2.1 < 4294967296

theorem SeesV.shape {w : World} {v : Value} {R : List Rsv} (h : SeesV w v R) : ∃ ao n cap, v = .slice ao n cap ∧ Hid (n = R.length) ∧ n ≤ cap ∧ cap ≤ maxLen := by
  obtain ⟨ao, cap, hv, h1, h2, _⟩ := h
  exact ⟨ao, R.length, cap, hv, rfl, h1, h2⟩

theorem SeesV.below {w w' : World} {v : Value} {R : List Rsv} (h : SeesV w v R) (hb : Below w.heap.size w w') : SeesV w' v R := by
  obtain ⟨ao, cap, rfl, h1, h2, h3⟩ := h
  refine ⟨ao, cap, rfl, h1, h2, fun j hj => ?_⟩
  obtain ⟨g, off, rfl, hg, c0, c1, c2, ha⟩ := h3 j hj
  exact ⟨g, off, rfl, Nat.lt_of_lt_of_le hg hb.size, (hb.cell (p := ⟨g, off + j * 3, none⟩) hg).trans c0, (hb.cell (p := ⟨g, off + j * 3 + 1, none⟩) hg).trans c1, (hb.cell (p := ⟨g, off + j * 3 + 2, none⟩) hg).trans c2, ha⟩

theorem SeesV.at {w : World} {ao : Option Addr} {n cap : Nat} {R : List Rsv} (h : SeesV w (.slice ao n cap) R) (j : Nat) (hj : j < n) : ∃ g off r, ao = some ⟨g, off, none⟩ ∧ g < w.heap.size ∧ w.cell? ⟨g, off + j * 3, none⟩ = some (.int .i64 r.1) ∧ w.cell? ⟨g, off + j * 3 + 1, none⟩ = some (.int .u32 (r.2.1 : Int)) ∧ w.cell? ⟨g, off + j * 3 + 2, none⟩ = some (.int .i64 r.2.2) ∧ r.2.1 < 4294967296 ∧ Hid (R[j]? = some r) := by
  obtain ⟨ao', cap', hv, h1, h2, h3⟩ := h
  simp at hv
  obtain ⟨rfl, rfl, rfl⟩ := hv
  obtain ⟨g, off, a, b, c, d, e, f⟩ := h3 j hj
  exact ⟨g, off, R[j], a, b, c, d, e, f, List.getElem?_eq_getElem hj⟩

def rg (R : List Rsv) (i : Nat) : Rsv := R.getD i (0, 0, 0)

/-- The reserved subnet at i may stand behind those ahead of it. -/
def okAt (c : Cfg) (R : List Rsv) (i : Nat) : Bool :=
  decide (0 ≤ (rg R i).1) && (decide ((rg R i).1 < c.hosts) && ((decide (i = 0) || decide ((rg R (i - 1)).1 < (rg R i).1)) && (decide ((rg R i).2.2 = c.slen) && (sub c (rg R i).2.1 && !((R.take i).map fun r => r.2.1).contains (rg R i).2.1))))
def resv (c : Cfg) (R : List Rsv) : Bool := (List.range R.length).all (okAt c R)

/-- The host of the one ahead. -/
def lastH (R : List Rsv) (k : Nat) : Int := if k = 0 then -1 else (rg R (k - 1)).1

theorem lastH_ge {c : Cfg} {R : List Rsv} {k : Nat} (h : ∀ j, j < k → okAt c R j = true) : -1 ≤ lastH R k := by
  unfold lastH
  by_cases hk : k = 0
  · rw [if_pos hk]; omega
  · rw [if_neg hk]
    have := h (k - 1) (by omega)
    unfold okAt at this
    simp at this
    omega

theorem okAt_iff {c : Cfg} {R : List Rsv} {k : Nat} (h : ∀ j, j < k → okAt c R j = true) :
    okAt c R k = (decide (lastH R k < (rg R k).1) && (decide ((rg R k).1 < c.hosts) && (decide ((rg R k).2.2 = c.slen) && (sub c (rg R k).2.1 && !((R.take k).map fun r => r.2.1).contains (rg R k).2.1)))) := by
  have hl := lastH_ge h
  unfold okAt
  by_cases hk : k = 0
  · have e : lastH R k = -1 := by unfold lastH; rw [if_pos hk]
    rw [e]
    have : decide (0 ≤ (rg R k).1) = decide (-1 < (rg R k).1) := by
      by_cases x : 0 ≤ (rg R k).1
      · rw [decide_eq_true x, decide_eq_true (by omega)]
      · rw [decide_eq_false x, decide_eq_false (by omega)]
    rw [this, decide_eq_true hk]; simp
  · have e : lastH R k = (rg R (k - 1)).1 := by unfold lastH; rw [if_neg hk]
    rw [e] at hl ⊢
    have h0 : 0 ≤ (rg R (k - 1)).1 := by
      have := h (k - 1) (by omega)
      unfold okAt at this
      simp at this
      exact this.1
    rw [decide_eq_false hk]
    by_cases x : (rg R (k - 1)).1 < (rg R k).1
    · rw [decide_eq_true (show 0 ≤ (rg R k).1 by omega), decide_eq_true x]; simp
    · rw [decide_eq_false x]; simp

theorem law24 : Keyed Tryd.prog 24 := int_keyed Tryd.underlying24
theorem zero104 (w : World) : (zeroValue 104).run Tryd.prog w = .ok (.agg #[]) w := by kernel_rfl
theorem u32_lit {a : Nat} (h : a < 4294967296) : (Lit.int .u32 (a : Int)).wf = true := by
  show (decide (IntKind.u32.min ≤ (a : Int)) && decide ((a : Int) ≤ IntKind.u32.max)) = true
  rw [show IntKind.u32.min = 0 from by decide +kernel, show IntKind.u32.max = 4294967295 from by decide +kernel]
  simp; omega

/-- The addresses that were seen, as a set. -/
def seenOf (R : List Rsv) (k : Nat) : DataW Unit := setOf (.agg []) ((R.take k).map fun r => Lit.int .u32 (r.2.1 : Int))

theorem any_u32 (x : Nat) : ∀ l : List Rsv, (l.map fun r => Lit.int .u32 (r.2.1 : Int)).any (fun y : Lit => y.sameKey (.int .u32 (x : Int))) = (l.map fun r => r.2.1).contains x
  | [] => rfl
  | a :: r => by
    rw [List.map_cons, List.map_cons, List.any_cons, List.contains_cons, any_u32 x r]
    congr 1
    show decide (IntKind.u32 = IntKind.u32 ∧ (a.2.1 : Int) = (x : Int)) = (x == a.2.1)
    by_cases e : a.2.1 = x
    · subst e; simp
    · have e' : ¬ x = a.2.1 := fun h => e h.symm
      have e2 : ¬ (a.2.1 : Int) = (x : Int) := by omega
      simp [e', e2]

theorem has_seen (R : List Rsv) (k x : Nat) : Maps.has (seenOf R k) (.int .u32 (x : Int)) = ((R.take k).map fun r => r.2.1).contains x := by
  unfold seenOf
  rw [has_setOf _ _ _ (fun y hy => by obtain ⟨_, _, rfl⟩ := List.mem_map.1 hy; trivial)]
  exact any_u32 x _

theorem seen_snoc {R : List Rsv} {k : Nat} {r : Rsv} (h : R[k]? = some r) : seenOf R (k + 1) = (seenOf R k).put (.int .u32 (r.2.1 : Int)) (.agg []) := by
  unfold seenOf
  rw [List.take_add_one, h]
  simp [setOf_snoc]

theorem rg_of {R : List Rsv} {k : Nat} {r : Rsv} (h : R[k]? = some r) : rg R k = r := by unfold rg; rw [List.getD, h]; rfl

theorem grown_of {w w' : World} (h : Below w.heap.size w w') : w.grownBy w' none := ⟨h.os, h.tape, h.output, h.size, fun k hk _ => h.block k hk⟩
end Go.Proofs.YtkoinngpmkmocaaDoor
