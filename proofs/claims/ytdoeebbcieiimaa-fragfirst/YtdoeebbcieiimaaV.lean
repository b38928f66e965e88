import Derived.Test.YtdoeebbcieiimaaU
import Derived.Laws.CopyOwn
import Derived.Laws.MakeOwn
import Derived.Deep.RegionHeld3
namespace Go.Proofs.Ytdoeebbcieiimaa
open Go.ChangeShapes Go.WideShapes Go.ChangeAt Go.RowKit
set_option maxHeartbeats 400000
set_option maxRecDepth 100000

/-- The header that bytes tell. -/
def rdH (L : List Nat) (h : Nat) : Hd := ⟨byt L 1, w16 L 4, decide (byt L 6 / 64 % 2 = 1), decide (byt L 6 / 32 % 2 = 1), ((w16 L 6 % 8192 * 8 : Nat) : Int), byt L 8, byt L 9, w32 L 12, w32 L 16, (L.take h).drop 20⟩

theorem make_bytes (k : Nat) (hk : k ≤ 1099511627776) (u : World) : (Instr.makeSlice 22 (.int .i64 (k : Int)) (.int .i64 (k : Int))).run Try.prog u = .ok (.slice (some ⟨u.heap.size, 0, none⟩) k k) (u.alloc (.cells (madeCells #[.int .u8 0] k) 5)) := by
  obtain ⟨i0, hi0, hz0, hz1, hz2⟩ := info_parts Try.info5
  have := run_make (P := Try.prog) u 22 5 i0 (.int .u8 0) Try.underlying22 hi0 hz0 .i64 .i64 (k : Int) (k : Int) (by omega) (by omega) (by rw [hz2]; simp; omega) (by omega)
  rw [hz1] at this
  simpa [Value.cells] using this

theorem sees_blk {u : World} {g k : Nat} {X : List Nat} {t : TypeId} (hb : u.heap[g]? = some (.cells (bs X).toArray t)) (hk : X.length = k) (hkm : k ≤ 1099511627776) (hx : ∀ x ∈ X, x < 256) : SeesB u (.slice (some ⟨g, 0, none⟩) k k) X := by
  subst hk
  refine ⟨some ⟨g, 0, none⟩, X.length, rfl, ⟨Nat.le_refl _, fun h => by cases h⟩, by unfold maxLen; omega, fun j hj => ⟨g, 0, rfl, (Array.getElem?_eq_some_iff.1 hb).1, ?_, hx _ (List.getElem_mem hj)⟩⟩
  rw [Nat.zero_add, cell_of_row u _ _ _ _ _ hb]
  simp [bs, hj]

theorem size5 : (Try.prog.info? 5).map (·.size) = some 1 := by kernel_rfl

theorem keep_drew {B : Nat} {w0 u : World} {p q r : Addr} {a b c : Value} (h : Below B w0 u ∧ u.cell? p = some a ∧ u.cell? q = some b ∧ u.cell? r = some c) : Below B w0 u.drew ∧ u.drew.cell? p = some a ∧ u.drew.cell? q = some b ∧ u.drew.cell? r = some c :=
  ⟨below_drew h.1, by simpa using h.2.1, by simpa using h.2.2.1, by simpa using h.2.2.2⟩

theorem keep_drewN {B m : Nat} {w0 u : World} {p q r : Addr} {a b c : Value} (h : Below B w0 u ∧ u.cell? p = some a ∧ u.cell? q = some b ∧ u.cell? r = some c) : Below B w0 (u.drewN m) ∧ (u.drewN m).cell? p = some a ∧ (u.drewN m).cell? q = some b ∧ (u.drewN m).cell? r = some c :=
  ⟨below_drewN h.1 m, h.2.1, h.2.2.1, h.2.2.2⟩

theorem keep_alloc {B : Nat} {w0 u : World} {p q r : Addr} {a b c : Value} (h : Below B w0 u ∧ u.cell? p = some a ∧ u.cell? q = some b ∧ u.cell? r = some c) (o : Obj) (hB : B = w0.heap.size) : Below B w0 (u.alloc o) ∧ (u.alloc o).cell? p = some a ∧ (u.alloc o).cell? q = some b ∧ (u.alloc o).cell? r = some c :=
  ⟨h.1.alloc (by subst hB; exact h.1.size) _, (World.cell?_alloc_lt _ _ _ (World.block_lt_of_cell? u _ h.2.1)).trans h.2.1, (World.cell?_alloc_lt _ _ _ (World.block_lt_of_cell? u _ h.2.2.1)).trans h.2.2.1, (World.cell?_alloc_lt _ _ _ (World.block_lt_of_cell? u _ h.2.2.2)).trans h.2.2.2⟩

theorem SeesB.src {w : World} {ao : Option Addr} {n cap : Nat} {L : List Nat} (h : SeesB w (.slice ao n cap) L) (hpos : 0 < (bs L).length) : ∃ ad, ao = some ad ∧ ∀ j v, (bs L)[j]? = some v → w.cell? (ad.add j) = some v := by
  have hL : 0 < L.length := by simpa [bs] using hpos
  have hn : n = L.length := by obtain ⟨_, _, hv, _⟩ := h; simp at hv; exact hv.2.1
  obtain ⟨g, off, p, ha, _⟩ := h.at 0 (by omega)
  refine ⟨_, ha, fun j v hv => ?_⟩
  have hj : j < L.length := by have := (List.getElem?_eq_some_iff.1 hv).1; simpa [bs] using this
  obtain ⟨g', off', p', ha', _, hc, _, HP⟩ := h.at j (by omega)
  rw [ha] at ha'
  simp at ha'
  obtain ⟨rfl, rfl⟩ := ha'
  rw [Addr.add_mid, hc]
  have e : (bs L)[j]? = some (.int .u8 (p' : Int)) := by unfold bs; rw [List.getElem?_map, HP.out]; rfl
  rw [← e, hv]

theorem splice_whole {cur cs : List Value} (h : cs.length = cur.length) : splice cur 0 cs = cs := by
  unfold splice; simp; omega

theorem keep_of {w0 u : World} {p q r : Addr} {a b c : Value} (h1 : w0.cell? p = some a) (h2 : w0.cell? q = some b) (h3 : w0.cell? r = some c) (h : Below w0.heap.size w0 u) : Below w0.heap.size w0 u ∧ u.cell? p = some a ∧ u.cell? q = some b ∧ u.cell? r = some c :=
  ⟨h, (h.cell (World.block_lt_of_cell? w0 _ h1)).trans h1, (h.cell (World.block_lt_of_cell? w0 _ h2)).trans h2, (h.cell (World.block_lt_of_cell? w0 _ h3)).trans h3⟩

theorem size27 : (Try.prog.info? 27).map (·.size) = some 10 := by kernel_rfl

def Z27 : Array Value := #[.int .u8 0, .int .u16 0, .bool false, .bool false, .int .i64 0, .int .u8 0, .int .u8 0, .int .u32 0, .int .u32 0, .slice none 0 0]

theorem there_blk {u : World} {n k : Nat} {C : Array Value} {t : TypeId} (hb : u.heap[n]? = some (.cells C t (0, 0))) (hk : k = C.size) : u.there n 0 k := fun i hi => by
  subst hk
  refine ⟨?_, by rw [Nat.zero_add]; exact frozen_of_row _ _ _ _ _ hb⟩
  rw [Nat.zero_add, cell_of_row _ _ _ _ _ _ hb, Array.getElem?_eq_getElem hi]; rfl

theorem there_new (u : World) (n : Nat) (hn : u.heap.size = n) : (u.alloc (.cells Z27 27)).there n 0 10 := by
  subst hn
  exact there_blk (C := Z27) (heap_alloc_new u _) rfl

end Go.Proofs.Ytdoeebbcieiimaa
