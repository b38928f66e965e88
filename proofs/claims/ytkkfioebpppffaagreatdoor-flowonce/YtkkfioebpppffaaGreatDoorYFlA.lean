import Derived.Test.YtkkfioebpppffaaGreatDoorYFlM
import Derived.Test.YtkkfioebpppffaaGreatDoorYOWA
import Derived.WalkKit
import Derived.ProofKit
import Derived.OpenShut
import Derived.Maps.Ext
namespace Go.Proofs.YtkkfioebpppffaaGreatDoor.Fl
open Go.Proofs.YtkkfioebpppffaaGreatDoor Go.ChangeShapes Go.WideShapes Go.ChangeAt Go.RowKit Go.Maps Go.WideMaps
set_option maxHeartbeats 2000000
set_option maxRecDepth 100000

structure Tu where
  s : Nat
  d : Nat
  p : Nat
  sp : Nat
  dp : Nat
deriving DecidableEq
structure Tu.Ok (t : Tu) : Prop where
  s : t.s < 4294967296
  d : t.d < 4294967296
  p : t.p < 256
  sp : t.sp < 65536
  dp : t.dp < 65536
structure Fw where
  th : Tu
  bk : Tu
  st : Nat
  til : Int
deriving DecidableEq
def Tu.cells (t : Tu) : Array Value := #[.int .u32 (t.s : Int), .int .u32 (t.d : Int), .int .u8 (t.p : Int), .int .u16 (t.sp : Int), .int .u16 (t.dp : Int)]
def Fw.cells (f : Fw) : Array Value := #[.int .u32 (f.th.s : Int), .int .u32 (f.th.d : Int), .int .u8 (f.th.p : Int), .int .u16 (f.th.sp : Int), .int .u16 (f.th.dp : Int), .int .u32 (f.bk.s : Int), .int .u32 (f.bk.d : Int), .int .u8 (f.bk.p : Int), .int .u16 (f.bk.sp : Int), .int .u16 (f.bk.dp : Int), .int .i64 (f.st : Int), .int .i64 f.til]
def zTu : Tu := ⟨0, 0, 0, 0, 0⟩
def zFw : Fw := ⟨zTu, zTu, 0, 0⟩
def Tu.back (t : Tu) : Tu := ⟨t.d, t.s, t.p, t.dp, t.sp⟩
theorem Tu.Ok.back {t : Tu} (h : t.Ok) : t.back.Ok := ⟨h.d, h.s, h.p, h.dp, h.sp⟩
theorem zTu_ok : zTu.Ok := ⟨by decide, by decide, by decide, by decide, by decide⟩
theorem Tu.cells_inj {a b : Tu} (h : a.cells = b.cells) : a = b := by
  simp [Tu.cells] at h
  obtain ⟨h1, h2, h3, h4, h5⟩ := h
  cases a; cases b
  simp only [Tu.mk.injEq]
  simp only at h1 h2 h3 h4 h5
  omega
theorem Tu.one (t : Tu) : t.cells.all (·.oneCell') = true := by simp [Tu.cells, Value.oneCell']
theorem Fw.one (f : Fw) : f.cells.all (·.oneCell') = true := by simp [Fw.cells, Value.oneCell']

/-! ### tuples as keys -/
theorem kLaidOut : laidOutB Tryz.prog = true := by kernel_rfl
theorem rowT : (37 : TypeId) < Tryz.prog.types.size := of_decide_eq_true (by kernel_rfl)
theorem deepT : Tryz.prog.keyTypeAt (Tryz.prog.types.size + 1) 37 = true := by kernel_rfl
theorem wideT : (match Tryz.prog.underlying 37 with | some (.array _ _) | some (.struct _) => true | _ => false) = true := by rw [Tryz.underlying37]
theorem tLaw : KeyLaw Tryz.prog 37 := deep_law_laid kLaidOut (m := 3) (by omega) rowT (by kernel_rfl) wideT
theorem tKeyed : Keyed Tryz.prog 37 := Keyed.of_law tLaw

theorem tuple_some (t : Tu) (ht : t.Ok) : ∃ l, keyOf Tryz.prog 37 (.agg t.cells) = some l := by
  have w1 : (Lit.int .u32 (t.s : Int)).wf = true := by
    have := ht.s
    show (decide (IntKind.u32.min ≤ (t.s : Int)) && decide ((t.s : Int) ≤ IntKind.u32.max)) = true
    rw [show IntKind.u32.min = 0 from by decide +kernel, show IntKind.u32.max = 4294967295 from by decide +kernel]
    simp; omega
  have w2 : (Lit.int .u32 (t.d : Int)).wf = true := by
    have := ht.d
    show (decide (IntKind.u32.min ≤ (t.d : Int)) && decide ((t.d : Int) ≤ IntKind.u32.max)) = true
    rw [show IntKind.u32.min = 0 from by decide +kernel, show IntKind.u32.max = 4294967295 from by decide +kernel]
    simp; omega
  have w3 : (Lit.int .u8 (t.p : Int)).wf = true := by
    have := ht.p
    show (decide (IntKind.u8.min ≤ (t.p : Int)) && decide ((t.p : Int) ≤ IntKind.u8.max)) = true
    rw [show IntKind.u8.min = 0 from by decide +kernel, show IntKind.u8.max = 255 from by decide +kernel]
    simp; omega
  have w4 : (Lit.int .u16 (t.sp : Int)).wf = true := by
    have := ht.sp
    show (decide (IntKind.u16.min ≤ (t.sp : Int)) && decide ((t.sp : Int) ≤ IntKind.u16.max)) = true
    rw [show IntKind.u16.min = 0 from by decide +kernel, show IntKind.u16.max = 65535 from by decide +kernel]
    simp; omega
  have w5 : (Lit.int .u16 (t.dp : Int)).wf = true := by
    have := ht.dp
    show (decide (IntKind.u16.min ≤ (t.dp : Int)) && decide ((t.dp : Int) ≤ IntKind.u16.max)) = true
    rw [show IntKind.u16.min = 0 from by decide +kernel, show IntKind.u16.max = 65535 from by decide +kernel]
    simp; omega
  have hcell : Tryz.prog.cellsOf 37 = 5 := by kernel_rfl
  have hf : (Value.agg t.cells).formed Tryz.prog 37 = true := by simp [Tu.cells, Value.formed, Tryz.underlying37, hcell]
  have ua : Tryz.prog.underlying 30 = some (.int .u32) := by kernel_rfl
  have ub : Tryz.prog.underlying 5 = some (.int .u8) := by kernel_rfl
  have uc : Tryz.prog.underlying 28 = some (.int .u16) := by kernel_rfl
  have ca : Tryz.prog.cellsOf 30 = 1 := by kernel_rfl
  have cb : Tryz.prog.cellsOf 5 = 1 := by kernel_rfl
  have cc : Tryz.prog.cellsOf 28 = 1 := by kernel_rfl
  have hw : DataW.Trod (H := Unit) (fun _ => ()) Tryz.prog default 0 (fun _ => true) true 37 (.agg t.cells) (.agg [.lit (.int .u32 (t.s : Int)), .lit (.int .u32 (t.d : Int)), .lit (.int .u8 (t.p : Int)), .lit (.int .u16 (t.sp : Int)), .lit (.int .u16 (t.dp : Int))]) [] := by
    refine ⟨3, ?_⟩
    simp [DataW.trod, Tu.cells, Value.cells, Tryz.underlying37, hcell, ua, ub, uc, ca, cb, cc, w1, w2, w3, w4, w5]
  exact ⟨_, (keyOf_asKey deepT wideT hf hw).1⟩

noncomputable def Tu.l (t : Tu) : Lit := (keyOf Tryz.prog 37 (.agg t.cells)).getD (.bool false)
theorem Tu.l_spec {t : Tu} (ht : t.Ok) : keyOf Tryz.prog 37 (.agg t.cells) = some t.l := by
  obtain ⟨l, hl⟩ := tuple_some t ht
  unfold Tu.l; rw [hl]; rfl
theorem Tu.l_inj {a b : Tu} (ha : a.Ok) (hb : b.Ok) (h : a.l = b.l) : a = b := by
  have h1 := Tu.l_spec ha
  have h2 := Tu.l_spec hb
  rw [h] at h1
  have := tKeyed.inj h1 h2
  simp only [Value.agg.injEq] at this
  exact Tu.cells_inj this

def inD (x : Int) : DataW Unit := .lit (.int .i64 x)
def inR (v : Value) : Option (DataW Unit × List MemPlace) :=
  match v with
  | .int .i64 x => some (inD x, [])
  | _ => none
theorem inR_inv {v : Value} {y : DataW Unit × List MemPlace} (h : inR v = some y) : ∃ x : Int, v = .int .i64 x ∧ y = (inD x, []) := by
  unfold inR at h
  split at h
  · rename_i x
    exact ⟨x, rfl, by simpa using h.symm⟩
  · cases h
theorem inD_inj {a b : Int} (h : inD a = inD b) : a = b := by
  simp only [inD, DataW.lit.injEq, Lit.int.injEq, true_and] at h
  exact h

/-- The map from tuples to numbers. -/
noncomputable def gT : Mq.Sg Tu Int where
  kT := 37
  eT := 3
  mT := 58
  kV t := .agg t.cells
  kL := Tu.l
  kOk := Tu.Ok
  eV x := .int .i64 x
  eD := inD
  R := inR
  z := 0
  law := tKeyed
  um := Tryz.underlying58
  zero w := by kernel_rfl
  key k hk := Tu.l_spec hk
  linj a b ha hb h := Tu.l_inj ha hb h
  read e := rfl
  held v e ps h := by
    obtain ⟨n, rfl, hy⟩ := inR_inv h
    rw [inD_inj (congrArg Prod.fst hy)]
  einv v y h := by
    obtain ⟨n, rfl, _⟩ := inR_inv h
    exact ⟨n, rfl⟩

/-! ### the map from numbers to flows -/
def fwD (f : Fw) : DataW Unit := .agg [.lit (.int .u32 (f.th.s : Int)), .lit (.int .u32 (f.th.d : Int)), .lit (.int .u8 (f.th.p : Int)), .lit (.int .u16 (f.th.sp : Int)), .lit (.int .u16 (f.th.dp : Int)), .lit (.int .u32 (f.bk.s : Int)), .lit (.int .u32 (f.bk.d : Int)), .lit (.int .u8 (f.bk.p : Int)), .lit (.int .u16 (f.bk.sp : Int)), .lit (.int .u16 (f.bk.dp : Int)), .lit (.int .i64 (f.st : Int)), .lit (.int .i64 f.til)]
def fwR (v : Value) : Option (DataW Unit × List MemPlace) :=
  match v with
  | .agg cs => match cs.toList with
    | [.int .u32 (.ofNat a), .int .u32 (.ofNat b), .int .u8 (.ofNat c), .int .u16 (.ofNat d), .int .u16 (.ofNat e), .int .u32 (.ofNat a'), .int .u32 (.ofNat b'), .int .u8 (.ofNat c'), .int .u16 (.ofNat d'), .int .u16 (.ofNat e'), .int .i64 (.ofNat s), .int .i64 t] => some (fwD ⟨⟨a, b, c, d, e⟩, ⟨a', b', c', d', e'⟩, s, t⟩, [])
    | _ => none
  | _ => none
theorem fwR_mk (f : Fw) : fwR (.agg f.cells) = some (fwD f, []) := rfl
theorem fwR_inv {v : Value} {y : DataW Unit × List MemPlace} (h : fwR v = some y) : ∃ f : Fw, v = .agg f.cells ∧ y = (fwD f, []) := by
  unfold fwR at h
  split at h
  · split at h
    · rename_i cs a b c d e a' b' c' d' e' s t hc
      refine ⟨⟨⟨a, b, c, d, e⟩, ⟨a', b', c', d', e'⟩, s, t⟩, ?_, by simpa using h.symm⟩
      congr 1
      exact Array.toList_inj.1 hc
    · cases h
  · cases h
theorem fwD_inj {m n : Fw} (h : fwD m = fwD n) : m = n := by
  simp only [fwD, DataW.agg.injEq, List.cons.injEq, DataW.lit.injEq, and_true, Lit.int.injEq, true_and, Int.ofNat_inj] at h
  obtain ⟨h1, h2, h3, h4, h5, h6, h7, h8, h9, h10, h11, h12⟩ := h
  obtain ⟨⟨a, b, c, d, e⟩, ⟨a', b', c', d', e'⟩, s, t⟩ := m
  obtain ⟨⟨a2, b2, c2, d2, e2⟩, ⟨a2', b2', c2', d2', e2'⟩, s2, t2⟩ := n
  simp_all

theorem uInt : Tryz.prog.underlying 3 = some (.int .i64) := by kernel_rfl
def gF : Mq.Sg Int Fw where
  kT := 3
  eT := 45
  mT := 59
  kV x := .int .i64 x
  kL x := .int .i64 x
  kOk x := (Lit.int .i64 x).wf = true
  eV e := .agg e.cells
  eD := fwD
  R := fwR
  z := zFw
  law := int_keyed uInt
  um := Tryz.underlying59
  zero w := by kernel_rfl
  key k hk := keyOf_int_mk uInt hk
  linj a b _ _ h := by injection h
  read := fwR_mk
  held v e ps h := by
    obtain ⟨n, rfl, hy⟩ := fwR_inv h
    rw [fwD_inj (congrArg Prod.fst hy)]
  einv v y h := by
    obtain ⟨n, rfl, _⟩ := fwR_inv h
    exact ⟨n, rfl⟩
theorem gF_kinv (v : Value) (kl : Lit) (h : keyOf Tryz.prog gF.kT v = some kl) : ∃ k, gF.kOk k ∧ v = gF.kV k ∧ kl = gF.kL k := by
  obtain ⟨x, rfl, rfl, hw⟩ := Maps.keyOf_int_inv uInt h
  exact ⟨x, hw, rfl, rfl⟩
end Go.Proofs.YtkkfioebpppffaaGreatDoor.Fl
