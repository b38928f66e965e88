import Derived.Test.YthpokoiclfbddaaDoorEB
import Derived.Laws.CopyOwn
import Derived.Laws.MakeOwn
import Derived.Deep.RegionHeld3
import Derived.Test.YthpokoiclfbddaaDoorEA
namespace Go.Proofs.YthpokoiclfbddaaDoor.N
open Go.ChangeShapes Go.WideShapes Go.ChangeAt Go.RowKit
set_option maxHeartbeats 400000
set_option maxRecDepth 100000

/-- Where the header ends, where the packet ends, the first error. -/
def lens (L : List Nat) (whole : Bool) : Nat × Nat × Int :=
  if L.length < 20 then (0, 0, 30)
  else if byt L 0 / 16 ≠ 4 then (0, 0, 31)
  else if byt L 0 % 16 * 4 < 20 then (0, 0, 32)
  else if L.length < byt L 0 % 16 * 4 then (0, 0, 30)
  else if w16 L 2 < byt L 0 % 16 * 4 then (0, 0, 32)
  else if whole = true ∧ L.length < w16 L 2 then (0, 0, 30)
  else (byt L 0 % 16 * 4, w16 L 2, 0)

theorem ret_three {k l m : IntKind} {a b c a' b' c' : Int} (h1 : a = a') (h2 : b = b') (h3 : c = c') : Ending.returned (.tuple #[.int k a, .int l b, .int m c]) = .returned (.tuple #[.int k a', .int l b', .int m c']) := by rw [h1, h2, h3]

end Go.Proofs.YthpokoiclfbddaaDoor.N

namespace Go.Proofs.YthpokoiclfbddaaDoor.N
open Go.ChangeShapes Go.WideShapes Go.ChangeAt Go.RowKit
set_option maxHeartbeats 400000
set_option maxRecDepth 100000

/-- The first error of a header, its body's length told. -/
def hdE (H : List Nat) (nb : Nat) : Int :=
  if M.csum H ≠ 0 then 33
  else if 128 ≤ byt H 6 then 32
  else if M.area (H.drop 20) = false then 34
  else if M.pieceOk ((w16 H 6 % 8192 * 8 : Nat) : Int) nb (decide (byt H 6 / 32 % 2 = 1)) = false then 36
  else 0

theorem bit15 (H : List Nat) (hb : ∀ x ∈ H, x < 256) : (bits .and .u16 ((w16 H 6 : Nat) : Int) 32768 != 0) = decide (128 ≤ byt H 6) := by
  have h := and_u16_bit (w16 H 6) 15 (w16_lt hb 6) (by decide)
  rw [show ((2 ^ 15 : Nat) : Int) = 32768 from rfl] at h
  rw [h]
  have h1 := byt_lt hb 6
  have h2 := byt_lt hb 7
  unfold w16
  by_cases g : 128 ≤ byt H 6
  · rw [decide_eq_true g]; simp; omega
  · rw [decide_eq_false g]; simp; omega

theorem bit13 (H : List Nat) (hb : ∀ x ∈ H, x < 256) : (bits .and .u16 ((w16 H 6 : Nat) : Int) 8192 != 0) = decide (byt H 6 / 32 % 2 = 1) := by
  have h := and_u16_bit (w16 H 6) 13 (w16_lt hb 6) (by decide)
  rw [show ((2 ^ 13 : Nat) : Int) = 8192 from rfl] at h
  rw [h]
  have h1 := byt_lt hb 6
  have h2 := byt_lt hb 7
  unfold w16
  by_cases g : byt H 6 / 32 % 2 = 1
  · rw [decide_eq_true g]; simp; omega
  · rw [decide_eq_false g]; simp; omega

theorem bit14 (H : List Nat) (hb : ∀ x ∈ H, x < 256) : (bits .and .u16 ((w16 H 6 : Nat) : Int) 16384 != 0) = decide (byt H 6 / 64 % 2 = 1) := by
  have h := and_u16_bit (w16 H 6) 14 (w16_lt hb 6) (by decide)
  rw [show ((2 ^ 14 : Nat) : Int) = 16384 from rfl] at h
  rw [h]
  have h1 := byt_lt hb 6
  have h2 := byt_lt hb 7
  unfold w16
  by_cases g : byt H 6 / 64 % 2 = 1
  · rw [decide_eq_true g]; simp; omega
  · rw [decide_eq_false g]; simp; omega

end Go.Proofs.YthpokoiclfbddaaDoor.N

namespace Go.Proofs.YthpokoiclfbddaaDoor.N
open Go.ChangeShapes Go.WideShapes Go.ChangeAt Go.RowKit
set_option maxHeartbeats 400000
set_option maxRecDepth 100000

def exam (L : List Nat) (whole : Bool) : Nat × Nat × Int :=
  if (lens L whole).2.2 ≠ 0 then (0, 0, (lens L whole).2.2)
  else if hdE (L.take (lens L whole).1) ((lens L whole).2.1 - (lens L whole).1) ≠ 0 then (0, 0, hdE (L.take (lens L whole).1) ((lens L whole).2.1 - (lens L whole).1))
  else lens L whole

theorem lens_ok {L : List Nat} {whole : Bool} (h : (lens L whole).2.2 = 0) : 20 ≤ (lens L whole).1 ∧ (lens L whole).1 ≤ 60 ∧ (lens L whole).1 ≤ L.length ∧ (lens L whole).1 ≤ (lens L whole).2.1 ∧ (whole = true → (lens L whole).2.1 ≤ L.length) ∧ (lens L whole).1 = byt L 0 % 16 * 4 ∧ (lens L whole).2.1 = w16 L 2 := by
  by_cases h1 : L.length < 20
  · unfold lens at h; rw [if_pos h1] at h; cases h
  · by_cases h2 : byt L 0 / 16 ≠ 4
    · unfold lens at h; rw [if_neg h1, if_pos h2] at h; cases h
    · by_cases h3 : byt L 0 % 16 * 4 < 20
      · unfold lens at h; rw [if_neg h1, if_neg h2, if_pos h3] at h; cases h
      · by_cases h4 : L.length < byt L 0 % 16 * 4
        · unfold lens at h; rw [if_neg h1, if_neg h2, if_neg h3, if_pos h4] at h; cases h
        · by_cases h5 : w16 L 2 < byt L 0 % 16 * 4
          · unfold lens at h; rw [if_neg h1, if_neg h2, if_neg h3, if_neg h4, if_pos h5] at h; cases h
          · by_cases h6 : whole = true ∧ L.length < w16 L 2
            · unfold lens at h; rw [if_neg h1, if_neg h2, if_neg h3, if_neg h4, if_neg h5, if_pos h6] at h; cases h
            · have e : lens L whole = (byt L 0 % 16 * 4, w16 L 2, 0) := by
                unfold lens; rw [if_neg h1, if_neg h2, if_neg h3, if_neg h4, if_neg h5, if_neg h6]
              rw [e]
              simp only
              refine ⟨by omega, by omega, by omega, by omega, fun hw => ?_, trivial, trivial⟩
              rcases Nat.lt_or_ge L.length (w16 L 2) with h7 | h7
              · exact absurd ⟨hw, h7⟩ h6
              · exact h7

theorem exam_ok {L : List Nat} {whole : Bool} (h : (exam L whole).2.2 = 0) : (lens L whole).2.2 = 0 ∧ hdE (L.take (lens L whole).1) ((lens L whole).2.1 - (lens L whole).1) = 0 ∧ exam L whole = lens L whole := by
  by_cases h1 : (lens L whole).2.2 = 0
  · by_cases h2 : hdE (L.take (lens L whole).1) ((lens L whole).2.1 - (lens L whole).1) = 0
    · refine ⟨h1, h2, ?_⟩
      unfold exam; rw [if_neg (by simp [h1]), if_neg (by simp [h2])]
    · exfalso; unfold exam at h; rw [if_neg (by simp [h1]), if_pos h2] at h; exact h2 h
  · exfalso; unfold exam at h; rw [if_pos h1] at h; exact h1 h

/-- A cut 'x[:m:m]'. -/
theorem SeesB.high3 {w : World} {ao : Option Addr} {n cap : Nat} {L : List Nat} (h : SeesB w (.slice ao n cap) L) (m : Nat) (i : Int) (hi : i = m) (hm : m ≤ n) (hs : ao ≠ none) :
    ∃ ao', Hid (SeesB w (.slice ao' m m) (L.take m)) ∧ Hid (ao' = ao) ∧ ∀ u : World, (Instr.sliceAt 32 (.slice ao n cap) none (some (.int .i64 i)) (some (.int .i64 i))).run Tryd.prog u = .ok (.slice ao' m m) u := by
  subst hi
  obtain ⟨ao1, cap1, hv, h1, h2, h3⟩ := h
  simp at hv
  obtain ⟨rfl, hlen, rfl⟩ := hv
  refine ⟨ao, ?_, rfl, fun u => ?_⟩
  · refine ⟨ao, m, by rw [List.length_take]; congr 1; omega, ⟨by rw [List.length_take]; omega, fun h => absurd h hs⟩, by omega, fun j hj => ?_⟩
    rw [List.length_take] at hj
    obtain ⟨g, off, ha, hg, hc, hb⟩ := h3 j (by omega)
    exact ⟨g, off, ha, hg, by rw [List.getElem_take]; exact hc, by rw [List.getElem_take]; exact hb⟩
  · have hu : Tryd.prog.underlying 32 = some (.slice (Tryd.prog.elem 32)) := by kernel_rfl
    have hsz : (sizeOf (Tryd.prog.elem 32)).run Tryd.prog u = .ok 1 u := by kernel_rfl
    rw [run_sliceAt_slice (h := hu), run_slice_hm (ht := hu) (h0 := by omega) (h2 := by omega) (h3 := by omega), hsz]
    simp [Result.andThen, sliced]
    intro _
    cases ao <;> simp [Addr.add]

/-- A cut 'x[m:n:n]' up to a list's whole room. -/
theorem SeesB.low3 {w : World} {g n : Nat} {L : List Nat} (h : SeesB w (.slice (some ⟨g, 0, none⟩) n n) L) (m : Nat) (i k : Int) (hi : i = m) (hk : k = n) (hm : m ≤ n) :
    ∃ ao', Hid (SeesB w (.slice (some ao') (n - m) (n - m)) (L.drop m)) ∧ Hid (ao'.block = g) ∧ ∀ u : World, (Instr.sliceAt 32 (.slice (some ⟨g, 0, none⟩) n n) (some (.int .i64 i)) (some (.int .i64 k)) (some (.int .i64 k))).run Tryd.prog u = .ok (.slice (some ao') (n - m) (n - m)) u := by
  subst hi hk
  have hb := h.back m hm
  refine ⟨if n = m then ⟨g, 0, none⟩ else ⟨g, 0 + m, none⟩, ?_, by unfold Hid; split <;> rfl, fun u => ?_⟩
  · have e : (if n = m then some (⟨g, 0, none⟩ : Addr) else some ⟨g, 0 + m, none⟩) = some (if n = m then ⟨g, 0, none⟩ else ⟨g, 0 + m, none⟩) := by split <;> rfl
    rw [e] at hb
    exact hb
  · have hu : Tryd.prog.underlying 32 = some (.slice (Tryd.prog.elem 32)) := by kernel_rfl
    have hsz : (sizeOf (Tryd.prog.elem 32)).run Tryd.prog u = .ok 1 u := by kernel_rfl
    rw [run_sliceAt_slice (h := hu), run_slice_lhm (ht := hu) (h0 := by omega) (h1 := by omega) (h2 := by omega) (h3 := by omega), hsz]
    have ea : (⟨g, 0, none⟩ : Addr).add m = ⟨g, 0 + m, none⟩ := Addr.add_mid g 0 m
    simp [Result.andThen, sliced]
    by_cases e : n = m
    · simp [e]
    · simp [e, ea]
end Go.Proofs.YthpokoiclfbddaaDoor.N

namespace Go.Proofs.YthpokoiclfbddaaDoor.N
open Go.ChangeShapes Go.WideShapes Go.ChangeAt Go.RowKit
set_option maxHeartbeats 400000
set_option maxRecDepth 100000

/-- The header that bytes tell. -/
def rdH (L : List Nat) (h : Nat) : Hd := ⟨byt L 1, w16 L 4, decide (byt L 6 / 64 % 2 = 1), decide (byt L 6 / 32 % 2 = 1), ((w16 L 6 % 8192 * 8 : Nat) : Int), byt L 8, byt L 9, w32 L 12, w32 L 16, (L.take h).drop 20⟩

theorem make_bytes (k : Nat) (hk : k ≤ 1099511627776) (u : World) : (Instr.makeSlice 32 (.int .i64 (k : Int)) (.int .i64 (k : Int))).run Tryd.prog u = .ok (.slice (some ⟨u.heap.size, 0, none⟩) k k) (u.alloc (.cells (madeCells #[.int .u8 0] k) 5)) := by
  obtain ⟨i0, hi0, hz0, hz1, hz2⟩ := info_parts Tryd.info5
  have := run_make (P := Tryd.prog) u 32 5 i0 (.int .u8 0) Tryd.underlying32 hi0 hz0 .i64 .i64 (k : Int) (k : Int) (by omega) (by omega) (by rw [hz2]; simp; omega) (by omega)
  rw [hz1] at this
  simpa [Value.cells] using this

theorem sees_blk {u : World} {g k : Nat} {X : List Nat} {t : TypeId} (hb : u.heap[g]? = some (.cells (bs X).toArray t)) (hk : X.length = k) (hkm : k ≤ 1099511627776) (hx : ∀ x ∈ X, x < 256) : SeesB u (.slice (some ⟨g, 0, none⟩) k k) X := by
  subst hk
  refine ⟨some ⟨g, 0, none⟩, X.length, rfl, ⟨Nat.le_refl _, fun h => by cases h⟩, by unfold maxLen; omega, fun j hj => ⟨g, 0, rfl, (Array.getElem?_eq_some_iff.1 hb).1, ?_, hx _ (List.getElem_mem hj)⟩⟩
  rw [Nat.zero_add, cell_of_row u _ _ _ _ _ hb]
  simp [bs, hj]

theorem size5 : (Tryd.prog.info? 5).map (·.size) = some 1 := by kernel_rfl

theorem keep_drew {B : Nat} {w0 u : World} {p q r : Addr} {a b c : Value} (h : Below B w0 u ∧ u.cell? p = some a ∧ u.cell? q = some b ∧ u.cell? r = some c) : Below B w0 u.drew ∧ u.drew.cell? p = some a ∧ u.drew.cell? q = some b ∧ u.drew.cell? r = some c :=
  ⟨below_drew h.1, by simpa using h.2.1, by simpa using h.2.2.1, by simpa using h.2.2.2⟩

theorem keep_drewN {B m : Nat} {w0 u : World} {p q r : Addr} {a b c : Value} (h : Below B w0 u ∧ u.cell? p = some a ∧ u.cell? q = some b ∧ u.cell? r = some c) : Below B w0 (u.drewN m) ∧ (u.drewN m).cell? p = some a ∧ (u.drewN m).cell? q = some b ∧ (u.drewN m).cell? r = some c :=
  ⟨below_drewN h.1 m, h.2.1, h.2.2.1, h.2.2.2⟩

theorem keep_alloc {B : Nat} {w0 u : World} {p q r : Addr} {a b c : Value} (h : Below B w0 u ∧ u.cell? p = some a ∧ u.cell? q = some b ∧ u.cell? r = some c) (o : Obj) (hB : B = w0.heap.size) : Below B w0 (u.alloc o) ∧ (u.alloc o).cell? p = some a ∧ (u.alloc o).cell? q = some b ∧ (u.alloc o).cell? r = some c :=
  ⟨h.1.alloc (by subst hB; exact h.1.size) _, (World.cell?_alloc_lt _ _ _ (World.block_lt_of_cell? u _ h.2.1)).trans h.2.1, (World.cell?_alloc_lt _ _ _ (World.block_lt_of_cell? u _ h.2.2.1)).trans h.2.2.1, (World.cell?_alloc_lt _ _ _ (World.block_lt_of_cell? u _ h.2.2.2)).trans h.2.2.2⟩

theorem SeesB.src {w : World} {ao : Option Addr} {n cap : Nat} {L : List Nat} (h : SeesB w (.slice ao n cap) L) (hpos : 0 < (bs L).length) : ∃ ad, ao = some ad ∧ ∀ j v, (bs L)[j]? = some v → w.cell? (ad.add j) = some v := by
  have hL : 0 < L.length := by simpa [bs] using hpos
  have hn : n = L.length := by obtain ⟨_, _, hv, _⟩ := h; simp at hv; exact hv.2.1
  obtain ⟨g, off, p, ha, _⟩ := h.at 0 (by omega)
  refine ⟨_, ha, fun j v hv => ?_⟩
  have hj : j < L.length := by have := (List.getElem?_eq_some_iff.1 hv).1; simpa [bs] using this
  obtain ⟨g', off', p', ha', _, hc, _, HP⟩ := h.at j (by omega)
  rw [ha] at ha'
  simp at ha'
  obtain ⟨rfl, rfl⟩ := ha'
  rw [Addr.add_mid, hc]
  have e : (bs L)[j]? = some (.int .u8 (p' : Int)) := by unfold bs; rw [List.getElem?_map, HP.out]; rfl
  rw [← e, hv]

theorem splice_whole {cur cs : List Value} (h : cs.length = cur.length) : splice cur 0 cs = cs := by
  unfold splice; simp; omega

theorem keep_of {w0 u : World} {p q r : Addr} {a b c : Value} (h1 : w0.cell? p = some a) (h2 : w0.cell? q = some b) (h3 : w0.cell? r = some c) (h : Below w0.heap.size w0 u) : Below w0.heap.size w0 u ∧ u.cell? p = some a ∧ u.cell? q = some b ∧ u.cell? r = some c :=
  ⟨h, (h.cell (World.block_lt_of_cell? w0 _ h1)).trans h1, (h.cell (World.block_lt_of_cell? w0 _ h2)).trans h2, (h.cell (World.block_lt_of_cell? w0 _ h3)).trans h3⟩

theorem size27 : (Tryd.prog.info? 34).map (·.size) = some 10 := by kernel_rfl

def Z27 : Array Value := #[.int .u8 0, .int .u16 0, .bool false, .bool false, .int .i64 0, .int .u8 0, .int .u8 0, .int .u32 0, .int .u32 0, .slice none 0 0]

theorem there_blk {u : World} {n k : Nat} {C : Array Value} {t : TypeId} (hb : u.heap[n]? = some (.cells C t (0, 0))) (hk : k = C.size) : u.there n 0 k := fun i hi => by
  subst hk
  refine ⟨?_, by rw [Nat.zero_add]; exact frozen_of_row _ _ _ _ _ hb⟩
  rw [Nat.zero_add, cell_of_row _ _ _ _ _ _ hb, Array.getElem?_eq_getElem hi]; rfl

theorem there_new (u : World) (n : Nat) (hn : u.heap.size = n) : (u.alloc (.cells Z27 34)).there n 0 10 := by
  subst hn
  exact there_blk (C := Z27) (heap_alloc_new u _) rfl

end Go.Proofs.YthpokoiclfbddaaDoor.N

namespace Go.Proofs.YthpokoiclfbddaaDoor.N
open Go.ChangeShapes Go.WideShapes Go.ChangeAt Go.RowKit
set_option maxHeartbeats 400000
set_option maxRecDepth 100000

theorem SeesB.lowS {w : World} {ao : Option Addr} {n cap : Nat} {L : List Nat} (h : SeesB w (.slice ao n cap) L) (m : Nat) (hm : m ≤ n) :
    SeesB w (.slice (if cap = m then ao else ao.map (·.add m)) (n - m) (cap - m)) (L.drop m) := by
  have hlen : n = L.length := by obtain ⟨_, _, hv, _⟩ := h; simp at hv; exact hv.2.1
  cases ao with
  | none =>
    have hn : n = 0 := by
      rcases Nat.eq_zero_or_pos n with h0 | h0
      · exact h0
      · obtain ⟨_, _, _, hc, _⟩ := h.at 0 h0; cases hc
    obtain ⟨_, _, hv, h1, h3, _⟩ := h
    simp at hv
    obtain ⟨rfl, _, rfl⟩ := hv
    have hL : L.drop m = [] := List.drop_eq_nil_of_le (by omega)
    rw [hL]
    exact ⟨_, cap - m, by rw [show n - m = 0 by omega]; rfl, ⟨by simp, fun h => by have := h1.2 rfl; omega⟩, by omega, fun j hj => absurd hj (by simp)⟩
  | some a =>
    rcases Nat.eq_zero_or_pos n with h0 | h0
    · obtain ⟨_, _, hv, h1, h3, _⟩ := h
      simp at hv
      obtain ⟨rfl, _, rfl⟩ := hv
      have hL : L.drop m = [] := List.drop_eq_nil_of_le (by omega)
      rw [hL]
      exact ⟨_, cap - m, by rw [show n - m = 0 by omega]; rfl, ⟨by simp, fun h => by split at h <;> cases h⟩, by omega, fun j hj => absurd hj (by simp)⟩
    · obtain ⟨g, off, _, hc, _⟩ := h.at 0 h0
      simp at hc
      subst hc
      have := h.back m hm
      have ea : (⟨g, off, none⟩ : Addr).add m = ⟨g, off + m, none⟩ := by
        rcases Nat.eq_zero_or_pos m with rfl | h0
        · simp [Addr.add]
        · simp [Addr.add]; omega
      rw [Option.map_some, ea]
      exact this

/-- A cut 'x[a:b]': its value is kept a letter. -/
theorem SeesB.mid {w : World} {ao : Option Addr} {n cap : Nat} {L : List Nat} (h : SeesB w (.slice ao n cap) L) (a b : Nat) (i k : Int) (hi : i = a) (hk : k = b) (hab : a ≤ b) (hb : b ≤ n) :
    ∃ ao', Hid (SeesB w (.slice ao' (b - a) (cap - a)) ((L.take b).drop a)) ∧ ∀ u : World, (Instr.sliceAt 32 (.slice ao n cap) (some (.int .i64 i)) (some (.int .i64 k)) none).run Tryd.prog u = .ok (.slice ao' (b - a) (cap - a)) u := by
  subst hi hk
  have hT : SeesB w (.slice ao b cap) (L.take b) := by
    obtain ⟨ao1, cap1, hv, h1, h2, h3⟩ := h
    simp at hv
    obtain ⟨rfl, hlen, rfl⟩ := hv
    refine ⟨ao, cap, by rw [List.length_take]; congr 1; omega, ⟨by rw [List.length_take]; omega, h1.2⟩, h2, fun j hj => ?_⟩
    rw [List.length_take] at hj
    obtain ⟨g, off, ha, hg, hc, hb⟩ := h3 j (by omega)
    exact ⟨g, off, ha, hg, by rw [List.getElem_take]; exact hc, by rw [List.getElem_take]; exact hb⟩
  have hcap : n ≤ cap := by obtain ⟨_, _, hv, h1, _⟩ := h; simp at hv; obtain ⟨rfl, rfl, rfl⟩ := hv; exact h1.1
  refine ⟨_, hT.lowS a hab, fun u => ?_⟩
  have hu : Tryd.prog.underlying 32 = some (.slice (Tryd.prog.elem 32)) := by kernel_rfl
  have hsz : (sizeOf (Tryd.prog.elem 32)).run Tryd.prog u = .ok 1 u := by kernel_rfl
  rw [run_sliceAt_slice (h := hu), run_slice_lh (ht := hu) (h0 := by omega) (h1 := by omega) (h2 := by omega), hsz]
  simp [Result.andThen, sliced]

theorem size29' : (Tryd.prog.info? 36).map (·.size) = some 11 := by kernel_rfl
def Z29 : Array Value := #[.int .u8 0, .int .u16 0, .bool false, .bool false, .int .i64 0, .int .u8 0, .int .u8 0, .int .u32 0, .int .u32 0, .slice none 0 0, .slice none 0 0]

theorem byt_take {L : List Nat} {h i : Nat} (hi : i < h) : byt (L.take h) i = byt L i := by
  unfold byt; rw [List.getD_eq_getElem?_getD, List.getD_eq_getElem?_getD, List.getElem?_take_of_lt hi]

/-- What read's ends use: the zero packet's two blocks. -/
structure Ends (w : World) (zz : Array Value) (u : World) : Prop where
  ld : (Instr.loadAt 36 (.pointer (some ⟨w.heap.size + 1, 0, none⟩))).run Tryd.prog u = .ok (.agg zz) u
  th : u.there w.heap.size 0 zz.size
  lv : (loadVar 36 ⟨w.heap.size, 0, none⟩).run Tryd.prog (u.setCells w.heap.size 0 zz.toList) = .ok (.agg zz) (u.setCells w.heap.size 0 zz.toList)
  bf : Below w.heap.size w (u.setCells w.heap.size 0 zz.toList)

theorem below_sets {B b : Nat} {a : World} (hb : B ≤ b) : ∀ (vs : List Value) (o : Nat) (w : World), Below B a w → Below B a (w.setCells b o vs)
  | [], _, _, h => h
  | v :: vs, o, w, h => by
    rw [World.setCells]
    exact below_sets hb vs (o + 1) _ (h.setCell (p := ⟨b, o, none⟩) hb v)

theorem ends_any {w u : World} (hb : Below (w.heap.size + 2) ((w.alloc (.cells Z29 36)).alloc (.cells Z29 36)) u) : Ends w Z29 u := by
  have b0 : u.heap[w.heap.size]? = some (.cells Z29 36) := by
    have h1 : Below (w.heap.size + 1) (w.alloc (.cells Z29 36)) ((w.alloc (.cells Z29 36)).alloc (.cells Z29 36)) := (Below.refl _ _).alloc (by simp) _
    rw [hb.block w.heap.size (by omega), h1.block w.heap.size (by omega)]
    exact heap_alloc_new w _
  have b1 : u.heap[w.heap.size + 1]? = some (.cells Z29 36) := by
    rw [hb.block (w.heap.size + 1) (by omega)]
    have := heap_alloc_new (w.alloc (.cells Z29 36)) (.cells Z29 36)
    rw [World.size_alloc] at this
    exact this
  have hth : u.there w.heap.size 0 Z29.size := there_blk b0 rfl
  obtain ⟨fs, hu29⟩ := und29
  refine ⟨?_, hth, ?_, ?_⟩
  · refine run_loadAt_mid u (w.heap.size + 1) 0 36 Z29.toList (.struct fs) (fun j v hv => ?_) hu29 rfl (by rw [size29']; rfl)
    have hj : j < 11 := (List.getElem?_eq_some_iff.1 hv).1
    rw [Nat.zero_add, cell_of_row _ _ _ _ _ _ b1, ← hv, Array.getElem?_toList]
  · have hrg := World.rangeAt_setCells_same u w.heap.size 0 Z29.toList (by rw [Array.length_toList]; exact hth)
    exact run_loadVar_mid _ w.heap.size 0 36 Z29.toList (.struct fs) hrg hu29 rfl (by rw [size29']; rfl)
  · refine below_sets (Nat.le_refl _) _ _ _ ?_
    have h1 : Below w.heap.size w ((w.alloc (.cells Z29 36)).alloc (.cells Z29 36)) := ((Below.refl _ _).alloc (Nat.le_refl _) _).alloc (by simp) _
    exact h1.trans (hb.mono (by omega))
end Go.Proofs.YthpokoiclfbddaaDoor.N
