import Derived.Test.YtcelcnafcfefhaaND
namespace Go.Proofs.Ytcelcnafcfefhaa.N
open Go.ChangeShapes Go.WideShapes Go.ChangeAt Go.RowKit
set_option maxHeartbeats 400000
set_option maxRecDepth 100000

/-- A packet's header: what its fields hold. -/
structure Hd where
  tos : Nat
  id : Nat
  df : Bool
  mf : Bool
  off : Int
  ttl : Nat
  proto : Nat
  src : Nat
  dst : Nat
  opts : List Nat

structure Hd.Ok (h : Hd) : Prop where
  tos : h.tos < 256
  id : h.id < 65536
  off : -9223372036854775808 ≤ h.off ∧ h.off ≤ 9223372036854775807
  ttl : h.ttl < 256
  proto : h.proto < 256
  src : h.src < 4294967296
  dst : h.dst < 4294967296

def hdCells (h : Hd) (vo : Value) : Array Value := #[.int .u8 (h.tos : Int), .int .u16 (h.id : Int), .bool h.df, .bool h.mf, .int .i64 h.off, .int .u8 (h.ttl : Int), .int .u8 (h.proto : Int), .int .u32 (h.src : Int), .int .u32 (h.dst : Int), vo]

/-- The word of flags and offset. -/
def flagW (df mf : Bool) (f : Nat) : Nat := f / 8 + (if df then 16384 else 0) + (if mf then 8192 else 0)

def hdBytes (h : Hd) (len sum : Nat) : List Nat :=
  [69 + h.opts.length / 4, h.tos, len / 256, len % 256, h.id / 256, h.id % 256, flagW h.df h.mf h.off.toNat / 256, flagW h.df h.mf h.off.toNat % 256, h.ttl, h.proto, sum / 256, sum % 256,
   h.src / 65536 / 256, h.src / 65536 % 256, h.src % 65536 / 256, h.src % 65536 % 256, h.dst / 65536 / 256, h.dst / 65536 % 256, h.dst % 65536 / 256, h.dst % 65536 % 256] ++ h.opts

theorem hd_at {u : World} {n : Nat} {h : Hd} {vo : Value} {t : TypeId} (hb : u.heap[n]? = some (.cells (hdCells h vo) t)) :
    u.cell? ⟨n, 0, none⟩ = some (.int .u8 (h.tos : Int)) ∧ u.cell? ⟨n, 1, none⟩ = some (.int .u16 (h.id : Int)) ∧ u.cell? ⟨n, 2, none⟩ = some (.bool h.df) ∧ u.cell? ⟨n, 3, none⟩ = some (.bool h.mf) ∧ u.cell? ⟨n, 4, none⟩ = some (.int .i64 h.off) ∧
    u.cell? ⟨n, 5, none⟩ = some (.int .u8 (h.ttl : Int)) ∧ u.cell? ⟨n, 6, none⟩ = some (.int .u8 (h.proto : Int)) ∧ u.cell? ⟨n, 7, none⟩ = some (.int .u32 (h.src : Int)) ∧ u.cell? ⟨n, 8, none⟩ = some (.int .u32 (h.dst : Int)) ∧ u.cell? ⟨n, 9, none⟩ = some vo := by
  refine ⟨?_, ?_, ?_, ?_, ?_, ?_, ?_, ?_, ?_, ?_⟩ <;> (rw [cell_of_row u _ _ _ _ _ hb]; rfl)

end Go.Proofs.Ytcelcnafcfefhaa.N
