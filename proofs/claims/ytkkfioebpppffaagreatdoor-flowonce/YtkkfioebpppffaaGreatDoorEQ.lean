import Derived.Test.YtkkfioebpppffaaGreatDoorEC
import Derived.Test.YtkkfioebpppffaaGreatDoorYNX
import Derived.Test.YtkkfioebpppffaaGreatDoorEA
import Derived.Test.YtkkfioebpppffaaGreatDoorED
import Derived.Test.YtkkfioebpppffaaGreatDoorEB
namespace Go.Proofs.YtkkfioebpppffaaGreatDoor.N
open Go.ChangeShapes Go.WideShapes Go.ChangeAt Go.RowKit
set_option maxHeartbeats 1000000
set_option maxRecDepth 100000

theorem bit5 (x : Nat) : ((x : Int) / 32 % 2 == 1) = decide (x / 32 % 2 = 1) := by
  rw [Bool.eq_iff_iff]; simp; omega
theorem bit6 (x : Nat) (hx : x < 128) : ((x : Int) / 32 / 2 == 1) = decide (x / 64 % 2 = 1) := by
  rw [Bool.eq_iff_iff]; simp; omega

end Go.Proofs.YtkkfioebpppffaaGreatDoor.N

namespace Go.Proofs.YtkkfioebpppffaaGreatDoor.N
open Go.ChangeShapes Go.WideShapes Go.ChangeAt Go.RowKit
set_option maxHeartbeats 400000
set_option maxRecDepth 100000

theorem size29 : (Tryz.prog.info? 35).map (·.size) = some 11 := by kernel_rfl

/-- What Parse answers: the header, the body, the error. -/
def parsed (L : List Nat) : Hd × List Nat × Int :=
  if (exam L true).2.2 = 0 then (rdH (L.take (exam L true).2.1) (exam L true).1, (L.take (exam L true).2.1).drop (exam L true).1, 0) else (zeroH, [], (exam L true).2.2)

end Go.Proofs.YtkkfioebpppffaaGreatDoor.N

namespace Go.Proofs.YtkkfioebpppffaaGreatDoor.N
open Go.ChangeShapes Go.WideShapes Go.ChangeAt Go.RowKit
set_option maxHeartbeats 400000
set_option maxRecDepth 100000

theorem sees_set' {w : World} {ao : Option Addr} {n cap b : Nat} {L : List Nat} {vs : List Value} (h : SeesB w (.slice ao n cap) L) (hne : ∀ a, ao = some a → a.block ≠ b) : SeesB (w.setCells b 0 vs) (.slice ao n cap) L := by
  obtain ⟨ao', cap', hv, h1, h2, h3⟩ := h
  simp at hv
  obtain ⟨rfl, hn, rfl⟩ := hv
  refine ⟨ao, cap, by rw [hn], h1, h2, fun j hj => ?_⟩
  obtain ⟨g, off, ha, hg, hc, hb⟩ := h3 j hj
  have hg' := hne _ ha
  have e := World.cell?_setCells_out b vs 0 w ⟨g, off + j, none⟩ (fun hb _ => absurd hb hg')
  exact ⟨g, off, ha, World.block_lt_of_cell? (w.setCells b 0 vs) ⟨g, off + j, none⟩ (e.trans hc), e.trans hc, hb⟩

end Go.Proofs.YtkkfioebpppffaaGreatDoor.N

namespace Go.Proofs.YtkkfioebpppffaaGreatDoor.N
open Go.ChangeShapes Go.WideShapes Go.ChangeAt Go.RowKit
set_option maxHeartbeats 1000000
set_option maxRecDepth 100000

theorem hdE_ok {H : List Nat} {nb : Nat} (h : hdE H nb = 0) : M.csum H = 0 ∧ byt H 6 < 128 ∧ M.area (H.drop 20) = true ∧ M.pieceOk ((w16 H 6 % 8192 * 8 : Nat) : Int) nb (decide (byt H 6 / 32 % 2 = 1)) = true := by
  unfold hdE at h
  by_cases c1 : M.csum H = 0
  · rw [if_neg (by simp [c1])] at h
    by_cases c2 : 128 ≤ byt H 6
    · rw [if_pos c2] at h; cases h
    · rw [if_neg c2] at h
      cases c3 : M.area (H.drop 20)
      · rw [c3, if_pos rfl] at h; cases h
      · rw [c3, if_neg (by simp)] at h
        cases c4 : M.pieceOk ((w16 H 6 % 8192 * 8 : Nat) : Int) nb (decide (byt H 6 / 32 % 2 = 1))
        · rw [c4, if_pos rfl] at h; cases h
        · exact ⟨c1, by omega, rfl, rfl⟩
  · rw [if_pos c1] at h; cases h

theorem w32_lt {L : List Nat} (h : ∀ x ∈ L, x < 256) (i : Nat) : w32 L i < 4294967296 := by
  have h1 := w16_lt h i
  have h2 := w16_lt h (i + 2)
  unfold w32; omega

/-- The block that is being filled, at the heap's end of w5; three cells that are read. -/
structure Tgt (w5 u : World) : Prop where
  below : Below w5.heap.size w5 u
  row : ∃ cells : Array Value, u.heap[w5.heap.size]? = some (.cells cells 35 (0, 0)) ∧ cells.size = 11 ∧ cells[10]? = some (.slice none 0 0)

theorem tgt_drew {w5 u : World} {p q r : Addr} {a b c : Value} (h : Tgt w5 u ∧ u.cell? p = some a ∧ u.cell? q = some b ∧ u.cell? r = some c) : Tgt w5 u.drew ∧ u.drew.cell? p = some a ∧ u.drew.cell? q = some b ∧ u.drew.cell? r = some c := ⟨⟨below_drew h.1.below, h.1.row⟩, h.2.1, h.2.2.1, h.2.2.2⟩

theorem tgt_grow {w5 u u' : World} {p q r : Addr} {a b c : Value} (h : Tgt w5 u ∧ u.cell? p = some a ∧ u.cell? q = some b ∧ u.cell? r = some c) (hb : Below u.heap.size u u') : Tgt w5 u' ∧ u'.cell? p = some a ∧ u'.cell? q = some b ∧ u'.cell? r = some c := by
  obtain ⟨h, e1, e2, e3⟩ := h
  obtain ⟨cells, h1, h2, h3⟩ := h.row
  have hlt : w5.heap.size < u.heap.size := (Array.getElem?_eq_some_iff.1 h1).1
  exact ⟨⟨h.below.trans (hb.mono h.below.size), cells, (hb.block _ hlt).trans h1, h2, h3⟩, (hb.cell (World.block_lt_of_cell? u _ e1)).trans e1, (hb.cell (World.block_lt_of_cell? u _ e2)).trans e2, (hb.cell (World.block_lt_of_cell? u _ e3)).trans e3⟩

theorem tgt_cells {w5 u : World} (h : Tgt w5 u) : (∃ y, u.cell? ⟨w5.heap.size, 0, none⟩ = some y) ∧ (∃ y, u.cell? ⟨w5.heap.size, 1, none⟩ = some y) ∧ (∃ y, u.cell? ⟨w5.heap.size, 2, none⟩ = some y) ∧ (∃ y, u.cell? ⟨w5.heap.size, 3, none⟩ = some y) ∧ (∃ y, u.cell? ⟨w5.heap.size, 4, none⟩ = some y) ∧ (∃ y, u.cell? ⟨w5.heap.size, 5, none⟩ = some y) ∧ (∃ y, u.cell? ⟨w5.heap.size, 6, none⟩ = some y) ∧ (∃ y, u.cell? ⟨w5.heap.size, 7, none⟩ = some y) ∧ (∃ y, u.cell? ⟨w5.heap.size, 8, none⟩ = some y) ∧ (∃ y, u.cell? ⟨w5.heap.size, 9, none⟩ = some y) ∧ ∀ j, u.frozen? ⟨w5.heap.size, j, none⟩ = false := by
  obtain ⟨cells, h1, h2, h3⟩ := h.row
  have k : ∀ i, i < 11 → ∃ y, u.cell? ⟨w5.heap.size, i, none⟩ = some y := fun i hi => by
    rw [cell_of_row _ _ _ _ _ _ h1]
    exact ⟨_, Array.getElem?_eq_getElem (by omega)⟩
  exact ⟨k 0 (by omega), k 1 (by omega), k 2 (by omega), k 3 (by omega), k 4 (by omega), k 5 (by omega), k 6 (by omega), k 7 (by omega), k 8 (by omega), k 9 (by omega), fun j => frozen_of_row _ _ _ _ _ h1⟩

theorem tgt_set {w5 u : World} {g o1 o2 o3 j : Nat} {a b c v : Value} (h : Tgt w5 u ∧ u.cell? ⟨g, o1, none⟩ = some a ∧ u.cell? ⟨g, o2, none⟩ = some b ∧ u.cell? ⟨g, o3, none⟩ = some c) (hg : g ≠ w5.heap.size) (hj : j ≠ 10) :
    Tgt w5 (u.setCell ⟨w5.heap.size, j, none⟩ v) ∧ (u.setCell ⟨w5.heap.size, j, none⟩ v).cell? ⟨g, o1, none⟩ = some a ∧ (u.setCell ⟨w5.heap.size, j, none⟩ v).cell? ⟨g, o2, none⟩ = some b ∧ (u.setCell ⟨w5.heap.size, j, none⟩ v).cell? ⟨g, o3, none⟩ = some c := by
  obtain ⟨h, e1, e2, e3⟩ := h
  obtain ⟨cells, h1, h2, h3⟩ := h.row
  have hne : ∀ o, (u.setCell ⟨w5.heap.size, j, none⟩ v).cell? ⟨g, o, none⟩ = u.cell? ⟨g, o, none⟩ := fun o => World.cell?_setCells_out w5.heap.size [v] j u ⟨g, o, none⟩ (fun hb _ => absurd hb hg)
  refine ⟨⟨h.below.setCell (p := ⟨w5.heap.size, j, none⟩) (Nat.le_refl _) v, cells.setIfInBounds j v, ?_, by simp [h2], ?_⟩, (hne _).trans e1, (hne _).trans e2, (hne _).trans e3⟩
  · simp [World.setCell, Array.getElem?_modify, h1]
  · rw [Array.getElem?_setIfInBounds_ne hj]; exact h3

theorem Tgt.there {w5 u : World} (h : Tgt w5 u) : u.there w5.heap.size 0 10 := by
  obtain ⟨cells, h1, h2, h3⟩ := h.row
  intro i hi
  refine ⟨?_, by rw [Nat.zero_add]; exact frozen_of_row _ _ _ _ _ h1⟩
  rw [Nat.zero_add, cell_of_row _ _ _ _ _ _ h1, Array.getElem?_eq_getElem (by omega)]; rfl

theorem sees_setAt {w : World} {ao : Option Addr} {n cap b k : Nat} {L : List Nat} {x : Value} (h : SeesB w (.slice ao n cap) L) (hne : ∀ a, ao = some a → a.block ≠ b) : SeesB (w.setCell ⟨b, k, none⟩ x) (.slice ao n cap) L := by
  obtain ⟨ao', cap', hv, h1, h2, h3⟩ := h
  simp at hv
  obtain ⟨rfl, hn, rfl⟩ := hv
  refine ⟨ao, cap, by rw [hn], h1, h2, fun j hj => ?_⟩
  obtain ⟨g, off, ha, hg, hc, hb⟩ := h3 j hj
  have hg' := hne _ ha
  have e : (w.setCell ⟨b, k, none⟩ x).cell? ⟨g, off + j, none⟩ = _ := World.cell?_setCells_out b [x] k w ⟨g, off + j, none⟩ (fun hb _ => absurd hb hg')
  exact ⟨g, off, ha, World.block_lt_of_cell? _ ⟨g, off + j, none⟩ (e.trans hc), e.trans hc, hb⟩

end Go.Proofs.YtkkfioebpppffaaGreatDoor.N

namespace Go.Proofs.YtkkfioebpppffaaGreatDoor.N
open Go.ChangeShapes Go.WideShapes Go.ChangeAt Go.RowKit
set_option maxHeartbeats 1000000
set_option maxRecDepth 100000

theorem hd_row {u : World} {n : Nat} {h : Hd} {vo : Value} (hb : u.heap[n]? = some (.cells (hdCells h vo) 33 (0, 0))) (i : Nat) (hi : i < 10) : u.cell? ⟨n, i, none⟩ = some ((hdCells h vo)[i]'hi) := by
  rw [cell_of_row _ _ _ _ _ _ hb, Array.getElem?_eq_getElem hi]

end Go.Proofs.YtkkfioebpppffaaGreatDoor.N

namespace Go.Proofs.YtkkfioebpppffaaGreatDoor.N
open Go.ChangeShapes Go.WideShapes Go.ChangeAt Go.RowKit
set_option maxHeartbeats 1000000
set_option maxRecDepth 100000

end Go.Proofs.YtkkfioebpppffaaGreatDoor.N

namespace Go.Proofs.YtkkfioebpppffaaGreatDoor.N
open Go.ChangeShapes Go.WideShapes Go.ChangeAt Go.RowKit
set_option maxHeartbeats 1000000
set_option maxRecDepth 100000

/-- What is read of bytes: header, body, error. -/
def readL (L : List Nat) (whole : Bool) : Hd × List Nat × Int :=
  if (exam L whole).2.2 = 0 then (rdH (L.take (exam L whole).2.1) (exam L whole).1, (L.take (exam L whole).2.1).drop (exam L whole).1, 0) else (zeroH, [], (exam L whole).2.2)

/-- A new block, written whole. -/
structure New (u u' : World) (pa : Array Value) : Prop where
  below : Below u.heap.size u u'
  range : u'.rangeAt u.heap.size 0 pa.toList
  lt : u.heap.size < u'.heap.size

theorem new_there {u : World} {Z pa : Array Value} {T : TypeId} (hz : pa.size = Z.size) : (u.alloc (.cells Z T)).there u.heap.size 0 pa.size := there_blk (C := Z) (t := T) (heap_alloc_new u _) hz

theorem new_put {u : World} {Z pa : Array Value} {T : TypeId} (hz : pa.size = Z.size) : New u ((u.alloc (.cells Z T)).setCells u.heap.size 0 pa.toList) pa := by
  have hb : Below u.heap.size u ((u.alloc (.cells Z T)).setCells u.heap.size 0 pa.toList) := below_setCells' (Nat.le_refl _) _ _ _ ((Below.refl _ _).alloc (Nat.le_refl _) _)
  have hb' : Below (u.heap.size + 1) (u.alloc (.cells Z T)) ((u.alloc (.cells Z T)).setCells u.heap.size 0 pa.toList) → True := fun _ => trivial
  refine ⟨hb, World.rangeAt_setCells_same _ u.heap.size 0 pa.toList (by rw [Array.length_toList]; exact new_there hz), ?_⟩
  have h2 : ∀ (vs : List Value) (o : Nat) (w : World), (w.setCells u.heap.size o vs).heap.size = w.heap.size := by
    intro vs
    induction vs with
    | nil => intro o w; rfl
    | cons v vs ih => intro o w; rw [World.setCells, ih]; simp [World.setCell]
  rw [h2]; simp

theorem load_range {w : World} {b : Nat} {pa : Array Value} {T : TypeId} (h : w.rangeAt b 0 pa.toList) (hu : ∃ fs, Tryz.prog.underlying T = some (.struct fs)) (hi : (Tryz.prog.info? T).map (·.size) = some pa.size) :
    (Instr.loadAt T (.pointer (some ⟨b, 0, none⟩))).run Tryz.prog w = .ok (.agg pa) w := by
  obtain ⟨fs, hu⟩ := hu
  exact run_loadAt_mid w b 0 T pa.toList (.struct fs) h hu rfl (by rw [Array.length_toList]; exact hi)

theorem load_var {w : World} {b : Nat} {pa : Array Value} {T : TypeId} (h : w.there b 0 pa.size) (hu : ∃ fs, Tryz.prog.underlying T = some (.struct fs)) (hi : (Tryz.prog.info? T).map (·.size) = some pa.size) :
    (loadVar T ⟨b, 0, none⟩).run Tryz.prog (w.setCells b 0 pa.toList) = .ok (.agg pa) (w.setCells b 0 pa.toList) := by
  obtain ⟨fs, hu⟩ := hu
  exact run_loadVar_mid _ b 0 T pa.toList (.struct fs) (World.rangeAt_setCells_same w b 0 pa.toList (by rw [Array.length_toList]; exact h)) hu rfl (by rw [Array.length_toList]; exact hi)

theorem range_grow {w w' : World} {b : Nat} {cs : List Value} (h : w.rangeAt b 0 cs) (hb : Below w.heap.size w w') (hlt : b < w.heap.size) : w'.rangeAt b 0 cs := fun j v hv => (hb.cell (p := ⟨b, 0 + j, none⟩) hlt).trans (h j v hv)

theorem hd_one (h : Hd) (ao : Option Addr) (n c : Nat) : (hdCells h (.slice ao n c)).all (·.oneCell') = true := by simp [hdCells, Value.oneCell']

def Z27c : Array Value := #[.int .u8 0, .int .u16 0, .bool false, .bool false, .int .i64 0, .int .u8 0, .int .u8 0, .int .u32 0, .int .u32 0, .slice none 0 0]

theorem SeesB.takeS {w : World} {ao : Option Addr} {n cap : Nat} {L : List Nat} (h : SeesB w (.slice ao n cap) L) (b : Nat) (hb : b ≤ n) : SeesB w (.slice ao b cap) (L.take b) := by
  obtain ⟨ao1, cap1, hv, h1, h2, h3⟩ := h
  simp at hv
  obtain ⟨rfl, hlen, rfl⟩ := hv
  refine ⟨ao, cap, by rw [List.length_take]; congr 1; omega, ⟨by rw [List.length_take]; omega, h1.2⟩, h2, fun j hj => ?_⟩
  rw [List.length_take] at hj
  obtain ⟨g, off, ha, hg, hc, hb⟩ := h3 j (by omega)
  exact ⟨g, off, ha, hg, by rw [List.getElem_take]; exact hc, by rw [List.getElem_take]; exact hb⟩

end Go.Proofs.YtkkfioebpppffaaGreatDoor.N

namespace Go.Proofs.YtkkfioebpppffaaGreatDoor.N
open Go.ChangeShapes Go.WideShapes Go.ChangeAt Go.RowKit
set_option maxHeartbeats 1000000
set_option maxRecDepth 100000

/-- The program's Peek, refused. -/
theorem peek_bad (v : Value) (L : List Nat) (w : World) (hv : SeesB w v L) (hl : L.length ≤ 140737488355328) (he : (exam L false).2.2 ≠ 0) :
    Calls Tryz.prog 79 #[v] w fun e w' => e = .returned (.tuple #[.agg Z27c, .slice none 0 0, .int .i64 (exam L false).2.2]) ∧ Below w.heap.size w w' := by
  obtain ⟨w1, hw1⟩ : ∃ w1, w1 = w.alloc (.cells Z27c 33) := ⟨_, rfl⟩
  have hb1 : Below w.heap.size w w1 := by rw [hw1]; exact (Below.refl _ _).alloc (Nat.le_refl _) _
  have hs1 : w1.heap.size = w.heap.size + 1 := by rw [hw1]; simp
  have HX := hid (exam_code v L false w1 (hv.below hb1) hl)
  have HTH : Hid (∀ u, Below w1.heap.size w1 u → u.there w.heap.size 0 10) := fun u hu => by
    refine there_blk (C := Z27c) (t := 33) ?_ rfl
    rw [hu.block _ (by omega), hw1]
    exact heap_alloc_new w _
  have HW1 : Hid (w1 = w.alloc (.cells #[.int .u8 0, .int .u16 0, .bool false, .bool false, .int .i64 0, .int .u8 0, .int .u8 0, .int .u32 0, .int .u32 0, .slice none 0 0] 33)) := hw1
  have HB1 := hid hb1
  obtain ⟨ao, n, cap, rfl, _, _, _⟩ := hv.shape
  generalize exam L false = t at *
  obtain ⟨h, l, z⟩ := t
  simp only at *
  have hq : (z != 0) = true := by simp [he]
  obtain ⟨zz, hzz⟩ : ∃ zz : Array Value, zz = Z27c := ⟨_, rfl⟩
  have HZ : Hid (zz = #[.int .u8 0, .int .u16 0, .bool false, .bool false, .int .i64 0, .int .u8 0, .int .u8 0, .int .u32 0, .int .u32 0, .slice none 0 0]) := hzz
  have HONE : Hid (zz.all (·.oneCell') = true) := by unfold Hid; rw [hzz]; simp [Z27c, Value.oneCell']
  have HINF : Hid ((Tryz.prog.info? 33).map (·.size) = some zz.size) := by unfold Hid; rw [hzz]; exact size27
  rw [← hzz]
  clear hw1 hb1 hs1 hv he
  go_enter Tryz.func79, Tryz.ntmps79
  go_upto_region 1 with fail
  rw [← HW1.out]
  go_wp2_with fail
  refine HX.out.mono ?_
  rintro _ w2 ⟨rfl, hb2⟩
  have HTZ : Hid (w2.there w.heap.size 0 zz.size) := by unfold Hid; rw [hzz]; exact HTH.out _ hb2
  have HLV := hid (load_var HTZ.out und27 HINF.out)
  have HBF : Hid (Below w.heap.size w (w2.setCells w.heap.size 0 zz.toList)) := below_setCells' (Nat.le_refl _) _ _ _ (HB1.out.trans (hb2.mono HB1.out.size))
  clear hzz HTH HX hb2
  go_wp2_with (first
    | (refine wpList_store_mid rfl 33 (.tmp 2) (.tmp 18) rfl w.heap.size 0 zz rfl (by rw [HZ.out]; rfl) HTZ.out HINF.out HONE.out ?_)
    | fail)
  generalize w2.setCells w.heap.size 0 zz.toList = wf at HLV HBF ⊢
  refine bodyPost_ret (v := .tuple #[.agg zz, .slice none 0 0, .int .i64 z]) (by simp [results, Tryz.results79, asAddr, HLV.out]) rfl ?_
  exact ⟨rfl, HBF.out⟩

set_option maxHeartbeats 2000000 in
/-- The program's Peek, read. -/
theorem peek_good (v : Value) (L : List Nat) (w : World) (hv : SeesB w v L) (hl : L.length ≤ 140737488355328) (he : (exam L false).2.2 = 0) :
    Calls Tryz.prog 79 #[v] w fun e w' => ∃ vo vb, e = .returned (.tuple #[.agg (hdCells (rdH (L.take (exam L false).2.1) (exam L false).1) vo), vb, .int .i64 0]) ∧ SeesB w' vo (rdH (L.take (exam L false).2.1) (exam L false).1).opts ∧ SeesB w' vb ((L.take (exam L false).2.1).drop (exam L false).1) ∧ (∀ a n c, vo = .slice (some a) n c → w.heap.size ≤ a.block) ∧ (∀ a n c, vb = .slice (some a) n c → w.heap.size ≤ a.block) ∧ Below w.heap.size w w' := by
  obtain ⟨e1, e2, e3⟩ := exam_ok he
  obtain ⟨a1, a2, a3, a4, a5, a6, a7⟩ := lens_ok e1
  have hl16 := w16_lt hv.bytes 2
  rw [← a7] at hl16
  rw [← e3] at a1 a2 a3 a4 hl16
  clear e1 e2 e3 a5 a6 a7
  obtain ⟨w1, hw1⟩ : ∃ w1, w1 = w.alloc (.cells Z27c 33) := ⟨_, rfl⟩
  have hb1 : Below w.heap.size w w1 := by rw [hw1]; exact (Below.refl _ _).alloc (Nat.le_refl _) _
  have hs1 : w1.heap.size = w.heap.size + 1 := by rw [hw1]; simp
  have HX := hid (exam_code v L false w1 (hv.below hb1) hl)
  have HTH : Hid (∀ u, Below w1.heap.size w1 u → u.there w.heap.size 0 10) := fun u hu => by
    refine there_blk (C := Z27c) (t := 33) ?_ rfl
    rw [hu.block _ (by omega), hw1]
    exact heap_alloc_new w _
  have HW1 : Hid (w1 = w.alloc (.cells #[.int .u8 0, .int .u16 0, .bool false, .bool false, .int .i64 0, .int .u8 0, .int .u8 0, .int .u32 0, .int .u32 0, .slice none 0 0] 33)) := hw1
  have HB1 := hid hb1
  obtain ⟨ao, n, cap, rfl, HN, hn1, hn2⟩ := hv.shape
  unfold maxLen at hn2
  have hnl : n ≤ 140737488355328 := by have := HN.out; omega
  have HSV := hid hv
  generalize exam L false = t at *
  obtain ⟨h, l, z⟩ := t
  simp only at *
  subst he
  obtain ⟨l', hl'⟩ : ∃ l', l' = min l n := ⟨_, rfl⟩
  have HBD : Hid (L.take l = L.take l') := by
    unfold Hid
    rcases Nat.le_total l n with g | g
    · rw [hl', Nat.min_eq_left g]
    · rw [hl', Nat.min_eq_right g, List.take_of_length_le (by have := HN.out; omega), List.take_of_length_le (by have := HN.out; omega)]
  rw [HBD.out]
  have HSH := hid (HSV.out.takeS l' (by omega))
  have HUP : Hid (∀ u, Below w1.heap.size w1 u → Calls Tryz.prog 97 #[.slice ao l' cap, .int .i64 (h : Int)] u fun e w' => ∃ vo vb, e = .returned (.tuple #[.agg (hdCells (rdH (L.take l') h) vo), vb]) ∧ SeesB w' vo (rdH (L.take l') h).opts ∧ SeesB w' vb ((L.take l').drop h) ∧ (∀ a n c, vo = .slice (some a) n c → u.heap.size ≤ a.block) ∧ (∀ a n c, vb = .slice (some a) n c → u.heap.size ≤ a.block) ∧ Below u.heap.size u w') := fun u hu =>
    unpack_any _ (L.take l') h u (HSH.out.below (HB1.out.trans (hu.mono HB1.out.size))) a1 (by rw [List.length_take]; have := HN.out; omega) (by rw [List.length_take]; omega)
  generalize rdH (L.take l') h = H at *
  generalize (L.take l').drop h = BD at *
  have HS1 := hid hs1
  clear hw1 hb1 hs1 hv HSH
  rcases Nat.lt_or_ge n l with g | g
  · obtain rfl : l' = n := by omega
    clear hl' HBD
    go_enter Tryz.func79, Tryz.ntmps79
    go_upto_region 1 with fail
    rw [← HW1.out]
    go_wp2_with fail
    refine HX.out.mono ?_
    rintro _ w2 ⟨rfl, hb2⟩
    go_wp2_with fail
    refine (HUP.out _ hb2).mono ?_
    rintro _ w3 ⟨vo, vb, rfl, hso, hsb, hko, hkb, hb3⟩
    obtain ⟨a1', n1, c1, rfl, _, _, _⟩ := hso.shape
    obtain ⟨a2', n2, c2, rfl, _, _, _⟩ := hsb.shape
    obtain ⟨pa, hpa⟩ : ∃ pa : Array Value, pa = hdCells H (.slice a1' n1 c1) := ⟨_, rfl⟩
    have HPA := hid hpa
    have hpz : pa.size = Z27c.size := by rw [hpa]; rfl
    have HZA : Hid ((Tryz.prog.info? 33).map (·.size) = some pa.size) := by unfold Hid; rw [hpa]; exact size27
    have HOA : Hid (pa.all (·.oneCell') = true) := by unfold Hid; rw [hpa]; exact hd_one _ _ _ _
    have HTA := hid (new_there (u := w3) (T := 33) hpz)
    have HNW := new_put (u := w3) (T := 33) hpz
    obtain ⟨w4, hw4⟩ : ∃ w4, w4 = (w3.alloc (.cells Z27c 33)).setCells w3.heap.size 0 pa.toList := ⟨_, rfl⟩
    rw [← hw4] at HNW
    have HW4 : Hid (w4 = (w3.alloc (.cells #[.int .u8 0, .int .u16 0, .bool false, .bool false, .int .i64 0, .int .u8 0, .int .u8 0, .int .u32 0, .int .u32 0, .slice none 0 0] 33)).setCells w3.heap.size 0 pa.toList) := hw4
    have hb23 : Below w1.heap.size w1 w3 := hb2.trans (hb3.mono hb2.size)
    have hb4 : Below w1.heap.size w1 w4 := hb23.trans (HNW.below.mono hb23.size)
    have HLD := hid (load_range HNW.range und27 HZA.out)
    have HTZ : Hid (w4.there w.heap.size 0 pa.size) := by unfold Hid; rw [hpz]; exact HTH.out _ hb4
    have HLV := hid (load_var HTZ.out und27 HZA.out)
    have HBF : Hid (Below w.heap.size w (w4.setCells w.heap.size 0 pa.toList)) := below_setCells' (Nat.le_refl _) _ _ _ (HB1.out.trans (hb4.mono HB1.out.size))
    have hlt2 : w.heap.size < w2.heap.size := by have := hb2.size; have := HS1.out; omega
    have HSO : Hid (SeesB (w4.setCells w.heap.size 0 pa.toList) (.slice a1' n1 c1) H.opts) := sees_set' (hso.below HNW.below) (fun a ha => by have := hko a n1 c1 (by rw [ha]); omega)
    have HSB : Hid (SeesB (w4.setCells w.heap.size 0 pa.toList) (.slice a2' n2 c2) BD) := sees_set' (hsb.below HNW.below) (fun a ha => by have := hkb a n2 c2 (by rw [ha]); omega)
    have HKO : Hid (∀ a n c, (Value.slice a1' n1 c1) = .slice (some a) n c → w.heap.size ≤ a.block) := fun a n c e => by have := hko a n c e; omega
    have HKB : Hid (∀ a n c, (Value.slice a2' n2 c2) = .slice (some a) n c → w.heap.size ≤ a.block) := fun a n c e => by have := hkb a n c e; omega
    rw [← hpa]
    clear hpa hpz hw4 hb2 hb3 hb23 hb4 hlt2 hso hsb hko hkb HUP HTH HNW
    go_upto_region 5 with (first
      | (refine wpList_store_mid rfl 33 (.tmp 8) (.tmp 29) rfl w3.heap.size 0 pa rfl rfl HTA.out HZA.out HOA.out ?_)
      | fail)
    rw [← HW4.out]
    go_wp2_with (first
      | (refine wpList_ld 33 ⟨w3.heap.size, 0, none⟩ (.tmp 8) rfl rfl HLD.out rfl ?_)
      | (refine wpList_store_mid rfl 33 (.tmp 2) (.tmp 31) rfl w.heap.size 0 pa rfl rfl HTZ.out HZA.out HOA.out ?_)
      | fail)
    generalize w4.setCells w.heap.size 0 pa.toList = wf at HLV HBF HSO HSB ⊢
    refine bodyPost_ret (v := .tuple #[.agg pa, .slice a2' n2 c2, .int .i64 0]) (by simp [results, Tryz.results79, asAddr, HLV.out]) rfl ?_
    exact ⟨.slice a1' n1 c1, .slice a2' n2 c2, by rw [HPA.out], HSO.out, HSB.out, HKO.out, HKB.out, HBF.out⟩
  · obtain rfl : l' = l := by omega
    clear hl' HBD
    go_enter Tryz.func79, Tryz.ntmps79
    go_upto_region 1 with fail
    rw [← HW1.out]
    go_wp2_with fail
    refine HX.out.mono ?_
    rintro _ w2 ⟨rfl, hb2⟩
    go_wp2_with fail
    refine (HUP.out _ hb2).mono ?_
    rintro _ w3 ⟨vo, vb, rfl, hso, hsb, hko, hkb, hb3⟩
    obtain ⟨a1', n1, c1, rfl, _, _, _⟩ := hso.shape
    obtain ⟨a2', n2, c2, rfl, _, _, _⟩ := hsb.shape
    obtain ⟨pa, hpa⟩ : ∃ pa : Array Value, pa = hdCells H (.slice a1' n1 c1) := ⟨_, rfl⟩
    have HPA := hid hpa
    have hpz : pa.size = Z27c.size := by rw [hpa]; rfl
    have HZA : Hid ((Tryz.prog.info? 33).map (·.size) = some pa.size) := by unfold Hid; rw [hpa]; exact size27
    have HOA : Hid (pa.all (·.oneCell') = true) := by unfold Hid; rw [hpa]; exact hd_one _ _ _ _
    have HTA := hid (new_there (u := w3) (T := 33) hpz)
    have HNW := new_put (u := w3) (T := 33) hpz
    obtain ⟨w4, hw4⟩ : ∃ w4, w4 = (w3.alloc (.cells Z27c 33)).setCells w3.heap.size 0 pa.toList := ⟨_, rfl⟩
    rw [← hw4] at HNW
    have HW4 : Hid (w4 = (w3.alloc (.cells #[.int .u8 0, .int .u16 0, .bool false, .bool false, .int .i64 0, .int .u8 0, .int .u8 0, .int .u32 0, .int .u32 0, .slice none 0 0] 33)).setCells w3.heap.size 0 pa.toList) := hw4
    have hb23 : Below w1.heap.size w1 w3 := hb2.trans (hb3.mono hb2.size)
    have hb4 : Below w1.heap.size w1 w4 := hb23.trans (HNW.below.mono hb23.size)
    have HLD := hid (load_range HNW.range und27 HZA.out)
    have HTZ : Hid (w4.there w.heap.size 0 pa.size) := by unfold Hid; rw [hpz]; exact HTH.out _ hb4
    have HLV := hid (load_var HTZ.out und27 HZA.out)
    have HBF : Hid (Below w.heap.size w (w4.setCells w.heap.size 0 pa.toList)) := below_setCells' (Nat.le_refl _) _ _ _ (HB1.out.trans (hb4.mono HB1.out.size))
    have hlt2 : w.heap.size < w2.heap.size := by have := hb2.size; have := HS1.out; omega
    have HSO : Hid (SeesB (w4.setCells w.heap.size 0 pa.toList) (.slice a1' n1 c1) H.opts) := sees_set' (hso.below HNW.below) (fun a ha => by have := hko a n1 c1 (by rw [ha]); omega)
    have HSB : Hid (SeesB (w4.setCells w.heap.size 0 pa.toList) (.slice a2' n2 c2) BD) := sees_set' (hsb.below HNW.below) (fun a ha => by have := hkb a n2 c2 (by rw [ha]); omega)
    have HKO : Hid (∀ a n c, (Value.slice a1' n1 c1) = .slice (some a) n c → w.heap.size ≤ a.block) := fun a n c e => by have := hko a n c e; omega
    have HKB : Hid (∀ a n c, (Value.slice a2' n2 c2) = .slice (some a) n c → w.heap.size ≤ a.block) := fun a n c e => by have := hkb a n c e; omega
    rw [← hpa]
    clear hpa hpz hw4 hb2 hb3 hb23 hb4 hlt2 hso hsb hko hkb HUP HTH HNW
    go_upto_region 5 with (first
      | (refine wpList_store_mid rfl 33 (.tmp 8) (.tmp 29) rfl w3.heap.size 0 pa rfl rfl HTA.out HZA.out HOA.out ?_)
      | fail)
    rw [← HW4.out]
    go_wp2_with (first
      | (refine wpList_ld 33 ⟨w3.heap.size, 0, none⟩ (.tmp 8) rfl rfl HLD.out rfl ?_)
      | (refine wpList_store_mid rfl 33 (.tmp 2) (.tmp 31) rfl w.heap.size 0 pa rfl rfl HTZ.out HZA.out HOA.out ?_)
      | fail)
    generalize w4.setCells w.heap.size 0 pa.toList = wf at HLV HBF HSO HSB ⊢
    refine bodyPost_ret (v := .tuple #[.agg pa, .slice a2' n2 c2, .int .i64 0]) (by simp [results, Tryz.results79, asAddr, HLV.out]) rfl ?_
    exact ⟨.slice a1' n1 c1, .slice a2' n2 c2, by rw [HPA.out], HSO.out, HSB.out, HKO.out, HKB.out, HBF.out⟩

theorem read_false (v : Value) (L : List Nat) (w : World) (hv : SeesB w v L) (hl : L.length ≤ 140737488355328) :
    Calls Tryz.prog 79 #[v] w fun e w' => ∃ vo vb, e = .returned (.tuple #[.agg (hdCells (readL L false).1 vo), vb, .int .i64 (readL L false).2.2]) ∧ SeesB w' vo (readL L false).1.opts ∧ SeesB w' vb (readL L false).2.1 ∧ (∀ a n c, vo = .slice (some a) n c → w.heap.size ≤ a.block) ∧ (∀ a n c, vb = .slice (some a) n c → w.heap.size ≤ a.block) ∧ Below w.heap.size w w' := by
  by_cases he : (exam L false).2.2 = 0
  · have hp : readL L false = (rdH (L.take (exam L false).2.1) (exam L false).1, (L.take (exam L false).2.1).drop (exam L false).1, 0) := by unfold readL; rw [if_pos he]
    rw [hp]
    exact peek_good v L w hv hl he
  · have hp : readL L false = (zeroH, [], (exam L false).2.2) := by unfold readL; rw [if_neg he]
    rw [hp]
    refine (peek_bad v L w hv hl he).mono ?_
    rintro e w' ⟨rfl, hb⟩
    exact ⟨.slice none 0 0, .slice none 0 0, rfl, sees_nil _, sees_nil _, (fun _ _ _ h => by cases h), (fun _ _ _ h => by cases h), hb⟩

end Go.Proofs.YtkkfioebpppffaaGreatDoor.N
