import Derived.Test.YtcelcnafcfefhaaNWF
namespace Go.Proofs.Ytcelcnafcfefhaa.N
open Go.ChangeShapes Go.WideShapes Go.ChangeAt Go.RowKit
set_option maxHeartbeats 1000000
set_option maxRecDepth 100000

/-- What is read of bytes: header, body, error. -/
def readL (L : List Nat) (whole : Bool) : Hd × List Nat × Int :=
  if (exam L whole).2.2 = 0 then (rdH (L.take (exam L whole).2.1) (exam L whole).1, (L.take (exam L whole).2.1).drop (exam L whole).1, 0) else (zeroH, [], (exam L whole).2.2)

/-- A new block, written whole. -/
structure New (u u' : World) (pa : Array Value) : Prop where
  below : Below u.heap.size u u'
  range : u'.rangeAt u.heap.size 0 pa.toList
  lt : u.heap.size < u'.heap.size

theorem new_there {u : World} {Z pa : Array Value} {T : TypeId} (hz : pa.size = Z.size) : (u.alloc (.cells Z T)).there u.heap.size 0 pa.size := there_blk (C := Z) (t := T) (heap_alloc_new u _) hz

theorem new_put {u : World} {Z pa : Array Value} {T : TypeId} (hz : pa.size = Z.size) : New u ((u.alloc (.cells Z T)).setCells u.heap.size 0 pa.toList) pa := by
  have hb : Below u.heap.size u ((u.alloc (.cells Z T)).setCells u.heap.size 0 pa.toList) := below_setCells' (Nat.le_refl _) _ _ _ ((Below.refl _ _).alloc (Nat.le_refl _) _)
  have hb' : Below (u.heap.size + 1) (u.alloc (.cells Z T)) ((u.alloc (.cells Z T)).setCells u.heap.size 0 pa.toList) → True := fun _ => trivial
  refine ⟨hb, World.rangeAt_setCells_same _ u.heap.size 0 pa.toList (by rw [Array.length_toList]; exact new_there hz), ?_⟩
  have h2 : ∀ (vs : List Value) (o : Nat) (w : World), (w.setCells u.heap.size o vs).heap.size = w.heap.size := by
    intro vs
    induction vs with
    | nil => intro o w; rfl
    | cons v vs ih => intro o w; rw [World.setCells, ih]; simp [World.setCell]
  rw [h2]; simp

theorem load_range {w : World} {b : Nat} {pa : Array Value} {T : TypeId} (h : w.rangeAt b 0 pa.toList) (hu : ∃ fs, Try.prog.underlying T = some (.struct fs)) (hi : (Try.prog.info? T).map (·.size) = some pa.size) :
    (Instr.loadAt T (.pointer (some ⟨b, 0, none⟩))).run Try.prog w = .ok (.agg pa) w := by
  obtain ⟨fs, hu⟩ := hu
  exact run_loadAt_mid w b 0 T pa.toList (.struct fs) h hu rfl (by rw [Array.length_toList]; exact hi)

theorem load_var {w : World} {b : Nat} {pa : Array Value} {T : TypeId} (h : w.there b 0 pa.size) (hu : ∃ fs, Try.prog.underlying T = some (.struct fs)) (hi : (Try.prog.info? T).map (·.size) = some pa.size) :
    (loadVar T ⟨b, 0, none⟩).run Try.prog (w.setCells b 0 pa.toList) = .ok (.agg pa) (w.setCells b 0 pa.toList) := by
  obtain ⟨fs, hu⟩ := hu
  exact run_loadVar_mid _ b 0 T pa.toList (.struct fs) (World.rangeAt_setCells_same w b 0 pa.toList (by rw [Array.length_toList]; exact h)) hu rfl (by rw [Array.length_toList]; exact hi)

theorem range_grow {w w' : World} {b : Nat} {cs : List Value} (h : w.rangeAt b 0 cs) (hb : Below w.heap.size w w') (hlt : b < w.heap.size) : w'.rangeAt b 0 cs := fun j v hv => (hb.cell (p := ⟨b, 0 + j, none⟩) hlt).trans (h j v hv)

theorem hd_one (h : Hd) (ao : Option Addr) (n c : Nat) : (hdCells h (.slice ao n c)).all (·.oneCell') = true := by simp [hdCells, Value.oneCell']

def Z27c : Array Value := #[.int .u8 0, .int .u16 0, .bool false, .bool false, .int .i64 0, .int .u8 0, .int .u8 0, .int .u32 0, .int .u32 0, .slice none 0 0]

theorem SeesB.takeS {w : World} {ao : Option Addr} {n cap : Nat} {L : List Nat} (h : SeesB w (.slice ao n cap) L) (b : Nat) (hb : b ≤ n) : SeesB w (.slice ao b cap) (L.take b) := by
  obtain ⟨ao1, cap1, hv, h1, h2, h3⟩ := h
  simp at hv
  obtain ⟨rfl, hlen, rfl⟩ := hv
  refine ⟨ao, cap, by rw [List.length_take]; congr 1; omega, ⟨by rw [List.length_take]; omega, h1.2⟩, h2, fun j hj => ?_⟩
  rw [List.length_take] at hj
  obtain ⟨g, off, ha, hg, hc, hb⟩ := h3 j (by omega)
  exact ⟨g, off, ha, hg, by rw [List.getElem_take]; exact hc, by rw [List.getElem_take]; exact hb⟩

end Go.Proofs.Ytcelcnafcfefhaa.N
