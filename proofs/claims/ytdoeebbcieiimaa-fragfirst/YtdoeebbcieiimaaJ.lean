import Derived.Test.YtdoeebbcieiimaaI
namespace Go.Proofs.Ytdoeebbcieiimaa
open Go.ChangeShapes Go.WideShapes Go.ChangeAt Go.RowKit
set_option maxHeartbeats 400000
set_option maxRecDepth 100000

def opL (k : Int) (vy vp : Value) (x y z : Nat) (h : Hd) (vo vb : Value) : List Value :=
  [.int .i64 k, vy, vp, .int .u16 (x : Int), .int .u16 (y : Int), .int .u16 (z : Int), .int .u8 (h.tos : Int), .int .u16 (h.id : Int), .bool h.df, .bool h.mf, .int .i64 h.off, .int .u8 (h.ttl : Int), .int .u8 (h.proto : Int), .int .u32 (h.src : Int), .int .u32 (h.dst : Int), vo, vb]

theorem blk_at {u : World} {n : Nat} {cs : List Value} {t : TypeId} (hb : u.heap[n]? = some (.cells cs.toArray t)) : u.rangeAt n 0 cs := fun j v hv => by
  rw [Nat.zero_add, cell_of_row u _ _ _ _ _ hb]; simpa using hv

theorem blk_new (w : World) (cs : List Value) (t : TypeId) : (w.alloc (.cells cs.toArray t)).heap[w.heap.size]? = some (.cells cs.toArray t) := heap_alloc_new w _

end Go.Proofs.Ytdoeebbcieiimaa
