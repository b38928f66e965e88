import Derived.Test.YthpokoiclfbddaaDoorYFlM
import Derived.Test.YthpokoiclfbddaaDoorYOWA
import Derived.WalkKit
import Derived.ProofKit
import Derived.OpenShut
import Derived.Maps.Ext
namespace Go.Proofs.YthpokoiclfbddaaDoor.Fl
open Go.Proofs.YthpokoiclfbddaaDoor Go.ChangeShapes Go.WideShapes Go.ChangeAt Go.RowKit Go.Maps Go.WideMaps
set_option maxHeartbeats 2000000
set_option maxRecDepth 100000

structure Tu where
  s : Nat
  d : Nat
  p : Nat
  sp : Nat
  dp : Nat
deriving DecidableEq
structure Tu.Ok (t : Tu) : Prop where
  s : t.s < 4294967296
  d : t.d < 4294967296
  p : t.p < 256
  sp : t.sp < 65536
  dp : t.dp < 65536
structure Fw where
  th : Tu
  bk : Tu
  st : Nat
  til : Int
deriving DecidableEq
def Tu.cells (t : Tu) : Array Value := #[.int .u32 (t.s : Int), .int .u32 (t.d : Int), .int .u8 (t.p : Int), .int .u16 (t.sp : Int), .int .u16 (t.dp : Int)]
def Fw.cells (f : Fw) : Array Value := #[.int .u32 (f.th.s : Int), .int .u32 (f.th.d : Int), .int .u8 (f.th.p : Int), .int .u16 (f.th.sp : Int), .int .u16 (f.th.dp : Int), .int .u32 (f.bk.s : Int), .int .u32 (f.bk.d : Int), .int .u8 (f.bk.p : Int), .int .u16 (f.bk.sp : Int), .int .u16 (f.bk.dp : Int), .int .i64 (f.st : Int), .int .i64 f.til]
def zTu : Tu := ⟨0, 0, 0, 0, 0⟩
def zFw : Fw := ⟨zTu, zTu, 0, 0⟩
def Tu.back (t : Tu) : Tu := ⟨t.d, t.s, t.p, t.dp, t.sp⟩
theorem Tu.Ok.back {t : Tu} (h : t.Ok) : t.back.Ok := ⟨h.d, h.s, h.p, h.dp, h.sp⟩
theorem zTu_ok : zTu.Ok := ⟨by decide, by decide, by decide, by decide, by decide⟩
theorem Tu.cells_inj {a b : Tu} (h : a.cells = b.cells) : a = b := by
  simp [Tu.cells] at h
  obtain ⟨h1, h2, h3, h4, h5⟩ := h
  cases a; cases b
  simp only [Tu.mk.injEq]
  simp only at h1 h2 h3 h4 h5
  omega
theorem Tu.one (t : Tu) : t.cells.all (·.oneCell') = true := by simp [Tu.cells, Value.oneCell']
theorem Fw.one (f : Fw) : f.cells.all (·.oneCell') = true := by simp [Fw.cells, Value.oneCell']

end Go.Proofs.YthpokoiclfbddaaDoor.Fl
