import Derived.Test.YtdoeebbcieiimaaV
import Derived.Test.YtdoeebbcieiimaaH
import Derived.Test.YtdoeebbcieiimaaG
namespace Go.Proofs.Ytdoeebbcieiimaa
open Go.ChangeShapes Go.WideShapes Go.ChangeAt Go.RowKit
set_option maxHeartbeats 400000
set_option maxRecDepth 100000

theorem SeesB.lowS {w : World} {ao : Option Addr} {n cap : Nat} {L : List Nat} (h : SeesB w (.slice ao n cap) L) (m : Nat) (hm : m ≤ n) :
    SeesB w (.slice (if cap = m then ao else ao.map (·.add m)) (n - m) (cap - m)) (L.drop m) := by
  have hlen : n = L.length := by obtain ⟨_, _, hv, _⟩ := h; simp at hv; exact hv.2.1
  cases ao with
  | none =>
    have hn : n = 0 := by
      rcases Nat.eq_zero_or_pos n with h0 | h0
      · exact h0
      · obtain ⟨_, _, _, hc, _⟩ := h.at 0 h0; cases hc
    obtain ⟨_, _, hv, h1, h3, _⟩ := h
    simp at hv
    obtain ⟨rfl, _, rfl⟩ := hv
    have hL : L.drop m = [] := List.drop_eq_nil_of_le (by omega)
    rw [hL]
    exact ⟨_, cap - m, by rw [show n - m = 0 by omega]; rfl, ⟨by simp, fun h => by have := h1.2 rfl; omega⟩, by omega, fun j hj => absurd hj (by simp)⟩
  | some a =>
    rcases Nat.eq_zero_or_pos n with h0 | h0
    · obtain ⟨_, _, hv, h1, h3, _⟩ := h
      simp at hv
      obtain ⟨rfl, _, rfl⟩ := hv
      have hL : L.drop m = [] := List.drop_eq_nil_of_le (by omega)
      rw [hL]
      exact ⟨_, cap - m, by rw [show n - m = 0 by omega]; rfl, ⟨by simp, fun h => by split at h <;> cases h⟩, by omega, fun j hj => absurd hj (by simp)⟩
    · obtain ⟨g, off, _, hc, _⟩ := h.at 0 h0
      simp at hc
      subst hc
      have := h.back m hm
      have ea : (⟨g, off, none⟩ : Addr).add m = ⟨g, off + m, none⟩ := by
        rcases Nat.eq_zero_or_pos m with rfl | h0
        · simp [Addr.add]
        · simp [Addr.add]; omega
      rw [Option.map_some, ea]
      exact this

/-- A cut 'x[a:b]': its value is kept a letter. -/
theorem SeesB.mid {w : World} {ao : Option Addr} {n cap : Nat} {L : List Nat} (h : SeesB w (.slice ao n cap) L) (a b : Nat) (i k : Int) (hi : i = a) (hk : k = b) (hab : a ≤ b) (hb : b ≤ n) :
    ∃ ao', Hid (SeesB w (.slice ao' (b - a) (cap - a)) ((L.take b).drop a)) ∧ ∀ u : World, (Instr.sliceAt 22 (.slice ao n cap) (some (.int .i64 i)) (some (.int .i64 k)) none).run Try.prog u = .ok (.slice ao' (b - a) (cap - a)) u := by
  subst hi hk
  have hT : SeesB w (.slice ao b cap) (L.take b) := by
    obtain ⟨ao1, cap1, hv, h1, h2, h3⟩ := h
    simp at hv
    obtain ⟨rfl, hlen, rfl⟩ := hv
    refine ⟨ao, cap, by rw [List.length_take]; congr 1; omega, ⟨by rw [List.length_take]; omega, h1.2⟩, h2, fun j hj => ?_⟩
    rw [List.length_take] at hj
    obtain ⟨g, off, ha, hg, hc, hb⟩ := h3 j (by omega)
    exact ⟨g, off, ha, hg, by rw [List.getElem_take]; exact hc, by rw [List.getElem_take]; exact hb⟩
  have hcap : n ≤ cap := by obtain ⟨_, _, hv, h1, _⟩ := h; simp at hv; obtain ⟨rfl, rfl, rfl⟩ := hv; exact h1.1
  refine ⟨_, hT.lowS a hab, fun u => ?_⟩
  have hu : Try.prog.underlying 22 = some (.slice (Try.prog.elem 22)) := by kernel_rfl
  have hsz : (sizeOf (Try.prog.elem 22)).run Try.prog u = .ok 1 u := by kernel_rfl
  rw [run_sliceAt_slice (h := hu), run_slice_lh (ht := hu) (h0 := by omega) (h1 := by omega) (h2 := by omega), hsz]
  simp [Result.andThen, sliced]

theorem size29' : (Try.prog.info? 29).map (·.size) = some 11 := by kernel_rfl
def Z29 : Array Value := #[.int .u8 0, .int .u16 0, .bool false, .bool false, .int .i64 0, .int .u8 0, .int .u8 0, .int .u32 0, .int .u32 0, .slice none 0 0, .slice none 0 0]

theorem byt_take {L : List Nat} {h i : Nat} (hi : i < h) : byt (L.take h) i = byt L i := by
  unfold byt; rw [List.getD_eq_getElem?_getD, List.getD_eq_getElem?_getD, List.getElem?_take_of_lt hi]

/-- What read's ends use: the zero packet's two blocks. -/
structure Ends (w : World) (zz : Array Value) (u : World) : Prop where
  ld : (Instr.loadAt 29 (.pointer (some ⟨w.heap.size + 1, 0, none⟩))).run Try.prog u = .ok (.agg zz) u
  th : u.there w.heap.size 0 zz.size
  lv : (loadVar 29 ⟨w.heap.size, 0, none⟩).run Try.prog (u.setCells w.heap.size 0 zz.toList) = .ok (.agg zz) (u.setCells w.heap.size 0 zz.toList)
  bf : Below w.heap.size w (u.setCells w.heap.size 0 zz.toList)

theorem below_sets {B b : Nat} {a : World} (hb : B ≤ b) : ∀ (vs : List Value) (o : Nat) (w : World), Below B a w → Below B a (w.setCells b o vs)
  | [], _, _, h => h
  | v :: vs, o, w, h => by
    rw [World.setCells]
    exact below_sets hb vs (o + 1) _ (h.setCell (p := ⟨b, o, none⟩) hb v)

theorem ends_any {w u : World} (hb : Below (w.heap.size + 2) ((w.alloc (.cells Z29 29)).alloc (.cells Z29 29)) u) : Ends w Z29 u := by
  have b0 : u.heap[w.heap.size]? = some (.cells Z29 29) := by
    have h1 : Below (w.heap.size + 1) (w.alloc (.cells Z29 29)) ((w.alloc (.cells Z29 29)).alloc (.cells Z29 29)) := (Below.refl _ _).alloc (by simp) _
    rw [hb.block w.heap.size (by omega), h1.block w.heap.size (by omega)]
    exact heap_alloc_new w _
  have b1 : u.heap[w.heap.size + 1]? = some (.cells Z29 29) := by
    rw [hb.block (w.heap.size + 1) (by omega)]
    have := heap_alloc_new (w.alloc (.cells Z29 29)) (.cells Z29 29)
    rw [World.size_alloc] at this
    exact this
  have hth : u.there w.heap.size 0 Z29.size := there_blk b0 rfl
  obtain ⟨fs, hu29⟩ := und29
  refine ⟨?_, hth, ?_, ?_⟩
  · refine run_loadAt_mid u (w.heap.size + 1) 0 29 Z29.toList (.struct fs) (fun j v hv => ?_) hu29 rfl (by rw [size29']; rfl)
    have hj : j < 11 := (List.getElem?_eq_some_iff.1 hv).1
    rw [Nat.zero_add, cell_of_row _ _ _ _ _ _ b1, ← hv, Array.getElem?_toList]
  · have hrg := World.rangeAt_setCells_same u w.heap.size 0 Z29.toList (by rw [Array.length_toList]; exact hth)
    exact run_loadVar_mid _ w.heap.size 0 29 Z29.toList (.struct fs) hrg hu29 rfl (by rw [size29']; rfl)
  · refine below_sets (Nat.le_refl _) _ _ _ ?_
    have h1 : Below w.heap.size w ((w.alloc (.cells Z29 29)).alloc (.cells Z29 29)) := ((Below.refl _ _).alloc (Nat.le_refl _) _).alloc (by simp) _
    exact h1.trans (hb.mono (by omega))
end Go.Proofs.Ytdoeebbcieiimaa
