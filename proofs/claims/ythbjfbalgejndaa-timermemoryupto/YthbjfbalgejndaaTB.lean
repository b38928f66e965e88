import Derived.Test.YthbjfbalgejndaaTA
import Derived.Deep.MidRow
import Derived.Deep.CutRange
import Derived.Deep.RegionWith
import Derived.Deep.RegionHeld3
import Derived.Laws.MakeOwn
import Derived.Laws.AppendOwnNone
namespace Go.Proofs.Ythbjfbalgejndaa
open Go.ChangeShapes Go.WideShapes Go.ChangeAt Go.RowKit Go.Maps H
set_option maxHeartbeats 400000
set_option maxRecDepth 100000

/-! ### the row of deadlines -/
def pc (d : Dl) : List Value := [.int .i64 d.1, .int .i64 d.2]
def ds (L : List Dl) : List Value := L.flatMap pc

theorem ds_len (L : List Dl) : (ds L).length = L.length * 2 := by
  induction L with
  | nil => rfl
  | cons d L ih =>
    have e : ds (d :: L) = .int .i64 d.1 :: .int .i64 d.2 :: ds L := rfl
    rw [e, List.length_cons, List.length_cons, ih, List.length_cons]; omega

theorem ds_at (L : List Dl) (j : Nat) (h : j < L.length) : (ds L)[j * 2]? = some (.int .i64 (at' L j).1) ∧ (ds L)[j * 2 + 1]? = some (.int .i64 (at' L j).2) := by
  induction L generalizing j with
  | nil => cases h
  | cons p L ih =>
    have e : ds (p :: L) = .int .i64 p.1 :: .int .i64 p.2 :: ds L := rfl
    cases j with
    | zero => rw [e]; exact ⟨rfl, rfl⟩
    | succ j =>
      have h' : j < L.length := by simpa using h
      have := ih j h'
      rw [e, show (j + 1) * 2 = j * 2 + 1 + 1 from by omega]
      simp only [List.getElem?_cons_succ]
      exact this

theorem ds_set (L : List Dl) (j : Nat) (d : Dl) (h : j < L.length) : ds (L.set j d) = ((ds L).set (j * 2) (.int .i64 d.1)).set (j * 2 + 1) (.int .i64 d.2) := by
  induction L generalizing j with
  | nil => cases h
  | cons p L ih =>
    have e : ds (p :: L) = .int .i64 p.1 :: .int .i64 p.2 :: ds L := rfl
    cases j with
    | zero => rw [e]; rfl
    | succ j =>
      have h' : j < L.length := by simpa using h
      have e2 : ds ((p :: L).set (j + 1) d) = .int .i64 p.1 :: .int .i64 p.2 :: ds (L.set j d) := rfl
      rw [e, e2, ih j h', show (j + 1) * 2 = j * 2 + 1 + 1 from by omega]
      rfl

theorem ds_append (L M : List Dl) : ds (L ++ M) = ds L ++ ds M := by unfold ds; rw [List.flatMap_append]

theorem ds_take (L : List Dl) (n : Nat) : ds (L.take n) = (ds L).take (n * 2) := by
  induction L generalizing n with
  | nil => simp [ds]
  | cons p L ih =>
    have e : ds (p :: L) = .int .i64 p.1 :: .int .i64 p.2 :: ds L := rfl
    cases n with
    | zero => simp [ds]
    | succ n =>
      have e2 : ds ((p :: L).take (n + 1)) = .int .i64 p.1 :: .int .i64 p.2 :: ds (L.take n) := rfl
      rw [e2, ih, e, show (n + 1) * 2 = n * 2 + 1 + 1 by omega]
      rfl

/-- The block g is a row of room for cap deadlines, of which the first are L. -/
def RowD (w : World) (g cap : Nat) (L : List Dl) : Prop :=
  ∃ cur, w.heap[g]? = some (.cells cur 67 (0, 0)) ∧ L.length ≤ cap ∧ cap ≤ maxLen ∧ cur.size = cap * 2 ∧ cur.toList.take (L.length * 2) = ds L

theorem RowD.lt {w : World} {g cap : Nat} {L : List Dl} (h : RowD w g cap L) : g < w.heap.size := by
  obtain ⟨cur, h1, _⟩ := h
  exact (Array.getElem?_eq_some_iff.1 h1).1

theorem RowD.kept {w w' : World} {g cap : Nat} {L : List Dl} (h : RowD w g cap L) (hb : w'.heap[g]? = w.heap[g]?) : RowD w' g cap L := by
  obtain ⟨cur, h1, h2⟩ := h
  exact ⟨cur, hb.trans h1, h2⟩

theorem RowD.free {w : World} {g cap : Nat} {L : List Dl} (h : RowD w g cap L) (i : Nat) : w.frozen? ⟨g, i, none⟩ = false := by
  obtain ⟨cur, h1, _⟩ := h
  exact frozen_of_row _ _ _ _ _ h1

theorem RowD.cell {w : World} {g cap : Nat} {L : List Dl} (h : RowD w g cap L) (i : Nat) (hi : i < L.length) :
    w.cell? ⟨g, i * 2, none⟩ = some (.int .i64 (at' L i).1) ∧ w.cell? ⟨g, i * 2 + 1, none⟩ = some (.int .i64 (at' L i).2) := by
  obtain ⟨cur, h1, h2, h3, h4, h5⟩ := h
  obtain ⟨d1, d2⟩ := ds_at L i hi
  rw [← h5] at d1 d2
  rw [List.getElem?_take_of_lt (by omega), Array.getElem?_toList] at d1 d2
  exact ⟨by rw [cell_of_row _ _ _ _ _ _ h1]; exact d1, by rw [cell_of_row _ _ _ _ _ _ h1]; exact d2⟩

theorem RowD.set {w : World} {g cap : Nat} {L : List Dl} (h : RowD w g cap L) (i : Nat) (d : Dl) (hi : i < L.length) : RowD ((w.setCell ⟨g, i * 2, none⟩ (.int .i64 d.1)).setCell ⟨g, i * 2 + 1, none⟩ (.int .i64 d.2)) g cap (L.set i d) := by
  obtain ⟨cur, h1, h2, h3, h4, h5⟩ := h
  have e1 := heap_setCell_same w g (i * 2) cur 67 (.int .i64 d.1) h1
  have e2 := heap_setCell_same _ g (i * 2 + 1) _ 67 (.int .i64 d.2) e1
  refine ⟨_, e2, by rw [List.length_set]; exact h2, h3, by simpa using h4, ?_⟩
  rw [List.length_set, ds_set L i d hi, ← h5]
  simp only [Array.toList_setIfInBounds, List.take_set]

theorem RowD.take {w : World} {g cap : Nat} {L : List Dl} (h : RowD w g cap L) (n : Nat) : RowD w g cap (L.take n) := by
  obtain ⟨cur, h1, h2, h3, h4, h5⟩ := h
  refine ⟨cur, h1, by rw [List.length_take]; omega, h3, h4, ?_⟩
  rw [ds_take, ← h5, List.take_take, List.length_take]
  congr 1
  omega

/-- What a world has kept: all but some blocks. -/
structure Fr (F : List Nat) (w w' : World) : Prop where
  os : w'.os = w.os
  tape : w'.tape = w.tape
  output : w'.output = w.output
  size : w.heap.size ≤ w'.heap.size
  block : ∀ i, i < w.heap.size → i ∉ F → w'.heap[i]? = w.heap[i]?

theorem Fr.refl (F : List Nat) (w : World) : Fr F w w := ⟨rfl, rfl, rfl, Nat.le_refl _, fun _ _ _ => rfl⟩
theorem Fr.trans' {F G : List Nat} {a b c : World} (h1 : Fr F a b) (h2 : Fr G b c) (hG : ∀ x ∈ G, x ∈ F ∨ a.heap.size ≤ x) : Fr F a c :=
  ⟨h2.os.trans h1.os, h2.tape.trans h1.tape, h2.output.trans h1.output, Nat.le_trans h1.size h2.size, fun i hi hn =>
    (h2.block i (Nat.lt_of_lt_of_le hi h1.size) (fun hg => by rcases hG i hg with h | h; exact hn h; omega)).trans (h1.block i hi hn)⟩
theorem Fr.trans {F : List Nat} {a b c : World} (h1 : Fr F a b) (h2 : Fr F b c) : Fr F a c := h1.trans' h2 (fun _ h => .inl h)
theorem Fr.mono {F G : List Nat} {a b : World} (h : Fr F a b) (hF : ∀ x ∈ F, x ∈ G) : Fr G a b :=
  ⟨h.os, h.tape, h.output, h.size, fun i hi hn => h.block i hi (fun hf => hn (hF i hf))⟩
theorem Fr.alloc (F : List Nat) (w : World) (o : Obj) : Fr F w (w.alloc o) := ⟨rfl, rfl, rfl, by simp, fun i hi _ => (World.grownBy_alloc w o none).block i hi (by simp)⟩
theorem Fr.drew {F : List Nat} {a b : World} (h : Fr F a b) : Fr F a b.drew := ⟨h.os, h.tape, h.output, h.size, h.block⟩
theorem Fr.set {F : List Nat} {a b : World} (h : Fr F a b) {g i : Nat} {v : Value} (hg : g ∈ F) : Fr F a (b.setCell ⟨g, i, none⟩ v) :=
  ⟨h.os, h.tape, h.output, by simpa [World.setCell] using h.size, fun j hj hn => by
    have hne : g ≠ j := fun e => hn (e ▸ hg)
    rw [← h.block j hj hn]
    simp [World.setCell, Array.getElem?_modify, hne]⟩
theorem Fr.turned {F : List Nat} {a b c : World} (h : Fr F a b) {bm : Nat} (ht : b.mapTurned c bm) (hb : bm ∈ F) : Fr F a c := by
  have hg := ht.grown
  exact ⟨hg.os.trans h.os, hg.tape.trans h.tape, hg.output.trans h.output, Nat.le_trans h.size hg.size, fun j hj hn => (hg.block j (Nat.lt_of_lt_of_le hj h.size) (fun e => hn (by cases e; exact hb))).trans (h.block j hj hn)⟩
theorem Fr.below {F : List Nat} {a b : World} (h : Fr F a b) {B : Nat} (hF : ∀ x ∈ F, B ≤ x) (hB : B ≤ a.heap.size) : Below B a b :=
  ⟨h.os, h.tape, h.output, h.size, fun k hk => h.block k (by omega) (fun hf => by have := hF k hf; omega)⟩
theorem Fr.of_below {a b : World} (h : Below a.heap.size a b) (F : List Nat) : Fr F a b := ⟨h.os, h.tape, h.output, h.size, fun k hk _ => h.block k hk⟩

/-- A Timers, as it lies in memory: while something is moved about in it. -/
structure Mm (w : World) (b bm g cap : Nat) (lim : Int) (L : List Dl) (f : Int → Option Nat) (c : Nat) : Prop where
  row : w.heap[b]? = some (.cells #[.int .i64 lim, .slice (some ⟨g, 0, none⟩) L.length cap, .map (some bm)] 63 (0, 0))
  own : RowD w g cap L
  map : MapF w bm f c
  dom : ∀ x ∈ L, In64 x.1 ∧ In64 x.2
  room : L.length ≤ 65536 ∧ c ≤ 65536

theorem Mm.ne {w : World} {b bm g cap : Nat} {lim : Int} {L : List Dl} {f : Int → Option Nat} {c : Nat} (h : Mm w b bm g cap lim L f c) : b ≠ bm ∧ g ≠ b ∧ g ≠ bm := by
  obtain ⟨cur, h1, _⟩ := h.own
  obtain ⟨D, ⟨es, clock, h2, _⟩, _⟩ := h.map
  have h3 := h.row
  refine ⟨fun e => ?_, fun e => ?_, fun e => ?_⟩
  · rw [e, h2] at h3; cases h3
  · rw [e, h3] at h1; cases h1
  · rw [e, h2] at h1; cases h1

theorem Mm.kept {w w' : World} {b bm g cap : Nat} {lim : Int} {L : List Dl} {f : Int → Option Nat} {c : Nat} (h : Mm w b bm g cap lim L f c) (h1 : w'.heap[b]? = w.heap[b]?) (h2 : w'.heap[g]? = w.heap[g]?) (h3 : w'.heap[bm]? = w.heap[bm]?) : Mm w' b bm g cap lim L f c :=
  ⟨h1.trans h.row, h.own.kept h2, h.map.kept h3, h.dom, h.room⟩

theorem Mm.lt {w : World} {b bm g cap : Nat} {lim : Int} {L : List Dl} {f : Int → Option Nat} {c : Nat} (h : Mm w b bm g cap lim L f c) : b < w.heap.size ∧ g < w.heap.size ∧ bm < w.heap.size :=
  ⟨(Array.getElem?_eq_some_iff.1 h.row).1, h.own.lt, h.map.lt⟩

theorem Mm.fr {w w' : World} {F : List Nat} {b bm g cap : Nat} {lim : Int} {L : List Dl} {f : Int → Option Nat} {c : Nat} (h : Mm w b bm g cap lim L f c) (hf : Fr F w w') (h1 : b ∉ F) (h2 : g ∉ F) (h3 : bm ∉ F) : Mm w' b bm g cap lim L f c :=
  h.kept (hf.block _ h.lt.1 h1) (hf.block _ h.lt.2.1 h2) (hf.block _ h.lt.2.2 h3)

/-- put: the row and the map. -/
theorem put_any (b bm g cap p : Nat) (lim : Int) (L : List Dl) (f : Int → Option Nat) (c : Nat) (d : Dl) (w : World) (hm : Mm w b bm g cap lim L f c) (hp : p < L.length) (hd : In64 d.1 ∧ In64 d.2) (hc : (f d.1).isSome = true ∨ c < 65536) :
    Calls Try.prog 37 #[.pointer (some ⟨b, 0, none⟩), .int .i64 (p : Int), .agg #[.int .i64 d.1, .int .i64 d.2]] w fun e w' => e = .returned (.tuple #[]) ∧ Mm w' b bm g cap lim (L.set p d) (put f d.1 p) (if (f d.1).isSome then c else c + 1) ∧ Fr [g, bm] w w' := by
  obtain ⟨hn1, hn2, hn3⟩ := hm.ne
  obtain ⟨hl1, hl2, hl3⟩ := hm.lt
  have hroom := hm.room
  obtain ⟨w1, hw1⟩ : ∃ w1, w1 = w.alloc (.cells #[.int .i64 d.1, .int .i64 d.2] 67) := ⟨_, rfl⟩
  have hf1 : Fr [] w w1 := by rw [hw1]; exact Fr.alloc _ _ _
  have hs1 : w1.heap.size = w.heap.size + 1 := by rw [hw1]; simp
  have hm1 : Mm w1 b bm g cap lim L f c := hm.fr hf1 (by simp) (by simp) (by simp)
  have hbx : w1.heap[w.heap.size]? = some (.cells #[.int .i64 d.1, .int .i64 d.2] 67 (0, 0)) := by rw [hw1]; exact heap_alloc_new w _
  have k1 : w1.cell? ⟨b, 1, none⟩ = some (.slice (some ⟨g, 0, none⟩) L.length cap) := by rw [cell_of_row _ _ _ _ _ _ hm1.row]; rfl
  have x0 : w1.cell? ⟨w.heap.size, 0, none⟩ = some (.int .i64 d.1) := by rw [cell_of_row _ _ _ _ _ _ hbx]; rfl
  have x1 : w1.cell? ⟨w.heap.size, 1, none⟩ = some (.int .i64 d.2) := by rw [cell_of_row _ _ _ _ _ _ hbx]; rfl
  obtain ⟨y0, y1⟩ := hm1.own.cell p hp
  have f0 := hm1.own.free (p * 2)
  have f1 := hm1.own.free (p * 2 + 1)
  have HW1 := hid hw1
  -- behind the first statement
  obtain ⟨w3, hw3⟩ : ∃ w3, w3 = ((w1.setCell ⟨g, p * 2, none⟩ (.int .i64 d.1)).setCell ⟨g, p * 2 + 1, none⟩ (.int .i64 d.2)).drew := ⟨_, rfl⟩
  have hf3 : Fr [g] w1 w3 := by rw [hw3]; exact ((Fr.refl [g] w1).set (by simp)).set (by simp) |>.drew
  have hr3 : RowD w3 g cap (L.set p d) := by rw [hw3]; exact hm1.own.set p d hp
  have hb3 := hf3.block b hm1.lt.1 (by simpa using hn2.symm)
  have hx3 := hf3.block w.heap.size (by omega) (by simp; omega)
  have k2 : w3.cell? ⟨b, 2, none⟩ = some (.map (some bm)) := by rw [cell_of_row _ _ _ _ _ _ (hb3.trans hm1.row)]; rfl
  have z0 : w3.cell? ⟨w.heap.size, 0, none⟩ = some (.int .i64 d.1) := by rw [cell_of_row _ _ _ _ _ _ (hx3.trans hbx)]; rfl
  have hmp : MapF w3.drew bm f c := hm1.map.kept (hf3.block bm hm1.lt.2.2 (by simpa using hn3.symm))
  obtain ⟨w4, hrun, hm4, ht4⟩ := hmp.store (by omega) hd.1 p (by omega)
  have hf4 : Fr [g, bm] w w4 := by
    have h1 : Fr [g, bm] w w3 := (hf1.mono (G := [g, bm]) (by simp)).trans (hf3.mono (by simp))
    exact h1.drew.turned ht4 (by simp)
  have hg4 := ht4.grown
  have hres : Mm w4 b bm g cap lim (L.set p d) (put f d.1 p) (if (f d.1).isSome then c else c + 1) := by
    have hsz : w3.drew.heap.size = w3.heap.size := rfl
    refine ⟨?_, hr3.kept (hg4.block g (by rw [hsz]; exact hr3.lt) (by simpa using hn3)), hm4, fun x hx => ?_, ?_⟩
    · rw [List.length_set]
      have := hg4.block b (by rw [hsz]; exact Nat.lt_of_lt_of_le hm1.lt.1 hf3.size) (by simpa using hn1)
      rw [this]
      exact hb3.trans hm1.row
    · rcases List.mem_or_eq_of_mem_set hx with hx | rfl
      · exact hm1.dom x hx
      · exact hd
    · rw [List.length_set]
      refine ⟨hroom.1, ?_⟩
      rcases hc with hc | hc
      · rw [if_pos hc]; exact hroom.2
      · split <;> omega
  have HW3 := hid hw3
  have HRES := hid hres
  have HF4 := hid hf4
  obtain ⟨n, hn⟩ : ∃ n, n = L.length := ⟨_, rfl⟩
  rw [← hn] at k1 hp
  have hn6 : n ≤ 65536 := by omega
  generalize (at' L p).1 = v0 at y0
  generalize (at' L p).2 = v1 at y1
  clear hw1 hs1 hm hm1 hbx hw3 hf3 hr3 hb3 hx3 hmp hm4 ht4 hf4 hg4 hres hn hf1 hroom
  go_enter Try.func37, Try.ntmps37
  go_upto_region 1 with fail
  rw [← HW1.out]
  go_wp2
  go_region
  rw [← HW3.out]
  clear k1 x0 x1 y0 y1 f0 f1
  go_wp2
  go_region
  exact bodyPost_end (results_none Try.results37 _ _ _) rfl ⟨rfl, HRES.out, HF4.out⟩
end Go.Proofs.Ythbjfbalgejndaa
