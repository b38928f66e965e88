/-
  The reference: looked, in.
-/
import Derived.Test.YtahoileampdnkaaOY
namespace Go.Proofs.Ytahoileampdnkaa
open Go.ChangeShapes Go.WideShapes Go.ChangeAt Go.RowKit Ru N Tri
set_option maxHeartbeats 1000000
set_option maxRecDepth 100000

theorem lookedR (x lo hi : Nat) (y s : Int) (w : World) (hx : x < 4294967296) (hl : lo < 4294967296) (hh : hi < 4294967296) :
    Calls Try.prog 38 #[.agg #[.int .u32 (x : Int), .int .i64 y], .int .i64 s, .int .u32 (lo : Int), .int .u32 (hi : Int)] w fun e w' => e = .returned (.int .i64 (ck x y s lo hi)) ∧ Below w.heap.size w w' := by
  obtain ⟨wa, HWA⟩ : ∃ wa, Hid (wa = w.alloc (.cells #[.int .u32 (x : Int), .int .i64 y] 25)) := ⟨_, rfl⟩
  have hb0 : Below w.heap.size w wa := by rw [HWA.out]; exact (Below.refl _ _).alloc (Nat.le_refl _) _
  have r1 : wa.heap[w.heap.size]? = some (.cells #[.int .u32 (x : Int), .int .i64 y] 25) := by rw [HWA.out]; exact heap_alloc_new w _
  obtain ⟨q0, q1⟩ := Beh.two r1
  have HB0 := hid hb0
  have HV1 : ∀ u : Beh wa, Hid (Calls Try.prog 51 #[.agg #[.int .u32 (x : Int), .int .i64 y]] u.wd fun e w' => e = .returned (.bool (valB x y)) ∧ ∃ u' : Beh wa, w' = u'.wd) := fun u => Calls.beh (validR x y _ hx)
  have HA : ∀ (z : Nat), z < 4294967296 → ∀ u : Beh wa, Hid (Calls Try.prog 39 #[.agg #[.int .u32 (z : Int), .int .i64 s], .int .i64 s] u.wd fun e w' => e = .returned (.bool (valB z s)) ∧ ∃ u' : Beh wa, w' = u'.wd) := fun z hz u => Calls.beh (by
    have h := alignedR z s s u.wd hz
    rw [show (valB z s && decide (s = s)) = valB z s by simp] at h
    exact h)
  have HC : valB x y = true → ∀ (a : Nat) (u : Beh wa), Hid (Calls Try.prog 40 #[.agg #[.int .u32 (x : Int), .int .i64 y], .int .u32 (a : Int)] u.wd fun e w' => e = .returned (.bool (inN x y a)) ∧ ∃ u' : Beh wa, w' = u'.wd) := fun h a u => Calls.beh (containsR x y a _ hx h)
  have HVl := HA lo hl
  have HVh := HA hi hh
  have HE : Hid (ck x y s lo hi = if valB x y = false then 11 else if s < y ∨ 32 < s ∨ hi < lo then 1 else if valB lo s = false ∨ valB hi s = false then 100 else if inN x y lo = false ∨ inN x y hi = false then 101 else 0) := rfl
  generalize ck x y s lo hi = ee at *
  generalize hv0 : valB x y = b0 at *
  generalize valB lo s = bl at *
  generalize valB hi s = bh at *
  clear r1 hb0 HA
  have p0 := q0 ⟨wa, Below.refl _ _⟩
  have p1 := q1 ⟨wa, Below.refl _ _⟩
  simp only at p0 p1
  cases b0 with
  | false =>
    go_enter Try.func38, Try.ntmps38
    go_upto_region 1 with fail
    rw [← HWA.out]
    go_wp2_with fail
    refine (HV1 ⟨wa, Below.refl _ _⟩).out.mono ?_
    rintro _ _ ⟨rfl, u1, rfl⟩
    go_wp2_with fail
    go_ret
    exact ⟨ret_int (by rw [HE.out]; rfl), HB0.out.trans (u1.ok.mono HB0.out.size)⟩
  | true =>
    have HCl := HC rfl lo
    have HCh := HC rfl hi
    generalize inN x y lo = cl at *
    generalize inN x y hi = ch at *
    go_enter Try.func38, Try.ntmps38
    go_upto_region 1 with fail
    rw [← HWA.out]
    go_wp2_with fail
    refine (HV1 ⟨wa, Below.refl _ _⟩).out.mono ?_
    rintro _ _ ⟨rfl, u1, rfl⟩
    have t0 := q0 u1
    have t1 := q1 u1
    by_cases h1 : s < y ∨ 32 < s ∨ hi < lo
    · have HR : Hid (ee = 1) := by unfold Hid; rw [HE.out]; simp [h1]
      by_cases k1 : s < y
      · go_wp2_with fail
        go_ret
        exact ⟨ret_int HR.out.symm, HB0.out.trans (u1.ok.mono HB0.out.size)⟩
      · by_cases k2 : 32 < s
        · go_wp2_with fail
          go_ret
          exact ⟨ret_int HR.out.symm, HB0.out.trans (u1.ok.mono HB0.out.size)⟩
        · have k3 : hi < lo := by rcases h1 with h | h | h; exact absurd h k1; exact absurd h k2; exact h
          clear h1
          go_wp2_with fail
          go_ret
          exact ⟨ret_int HR.out.symm, HB0.out.trans (u1.ok.mono HB0.out.size)⟩
    · have k1 : ¬ s < y := fun h => h1 (.inl h)
      have k2 : ¬ 32 < s := fun h => h1 (.inr (.inl h))
      have k3 : ¬ hi < lo := fun h => h1 (.inr (.inr h))
      have HE2 : Hid (ee = if bl = false ∨ bh = false then 100 else if cl = false ∨ ch = false then 101 else 0) := by unfold Hid; rw [HE.out]; simp [h1]
      clear h1
      go_upto_region 6 with fail
      clear k1 k2 k3 t0 t1 p0 p1
      go_wp2_with fail
      refine (HVl u1).out.mono ?_
      rintro _ _ ⟨rfl, u2, rfl⟩
      go_wp2_with fail
      refine (HVh u2).out.mono ?_
      rintro _ _ ⟨rfl, u3, rfl⟩
      have s0 := q0 u3
      have s1 := q1 u3
      cases bl with
      | false =>
        go_wp2_with fail
        go_ret
        exact ⟨ret_int (by rw [HE2.out]; rfl), HB0.out.trans (u3.ok.mono HB0.out.size)⟩
      | true =>
        cases bh with
        | false =>
          go_wp2_with fail
          go_ret
          exact ⟨ret_int (by rw [HE2.out]; rfl), HB0.out.trans (u3.ok.mono HB0.out.size)⟩
        | true =>
          go_wp2_with fail
          refine (HCl u3).out.mono ?_
          rintro _ _ ⟨rfl, u4, rfl⟩
          have z0 := q0 u4
          have z1 := q1 u4
          go_wp2_with fail
          refine (HCh u4).out.mono ?_
          rintro _ _ ⟨rfl, u5, rfl⟩
          cases cl with
          | false =>
            go_wp2_with fail
            go_ret
            exact ⟨ret_int (by rw [HE2.out]; rfl), HB0.out.trans (u5.ok.mono HB0.out.size)⟩
          | true =>
            cases ch with
            | false =>
              go_wp2_with fail
              go_ret
              exact ⟨ret_int (by rw [HE2.out]; rfl), HB0.out.trans (u5.ok.mono HB0.out.size)⟩
            | true =>
              go_wp2_with fail
              go_ret
              exact ⟨ret_int (by rw [HE2.out]; rfl), HB0.out.trans (u5.ok.mono HB0.out.size)⟩

/-- Own lists of numbers. -/
def OwnN (w : World) (B : Nat) (v : Value) (L : List Nat) : Prop := w.ownsRow B 3 1 v L.length (L.map fun n : Nat => Value.int .i64 (n : Int))

theorem OwnN.shape {w : World} {B : Nat} {v : Value} {L : List Nat} (h : OwnN w B v L) : ∃ a n cap, v = .slice a n cap ∧ Hid (n = L.length) ∧ n ≤ cap ∧ cap ≤ 9223372036854775807 := by
  rcases h.2 with ⟨rfl, h0⟩ | ⟨g, cap, cur, rfl, -, -, h1, h2, -⟩
  · exact ⟨none, 0, 0, rfl, h0.symm, Nat.le_refl _, by omega⟩
  · unfold maxLen at h2
    exact ⟨_, L.length, cap, rfl, rfl, h1, by omega⟩

theorem OwnN.at {w : World} {B n cap : Nat} {a : Option Addr} {L : List Nat} (h : OwnN w B (.slice a n cap) L) {i : Nat} {x : Nat} (hi : L[i]? = some x) : ∃ g, a = some ⟨g, 0, none⟩ ∧ g < w.heap.size ∧ ∀ u : World, u.heap[g]? = w.heap[g]? → u.cell? ⟨g, i, none⟩ = some (.int .i64 (x : Int)) := by
  have hl := (List.getElem?_eq_some_iff.1 hi).1
  rcases h.2 with ⟨_, h0⟩ | ⟨g, cap', cur, h0, hb, hg, h1, h2, h3, h4⟩
  · omega
  · simp only [Value.slice.injEq] at h0
    obtain ⟨rfl, -, -⟩ := h0
    refine ⟨g, rfl, (Array.getElem?_eq_some_iff.1 hg).1, fun u hu => ?_⟩
    rw [hg] at hu
    have e1 : (L.map fun n : Nat => Value.int .i64 (n : Int))[i]? = some (.int .i64 (x : Int)) := by rw [List.getElem?_map, hi]; rfl
    rw [← h4, List.getElem?_take, if_pos (by omega)] at e1
    rw [cell_of_row _ _ _ _ _ _ hu]
    simpa using e1

theorem OwnN.below {w w' : World} {B : Nat} {v : Value} {L : List Nat} (h : OwnN w B v L) (hb : Below w.heap.size w w') : OwnN w' B v L :=
  World.ownsRow.kept (row := none) h ⟨hb.os, hb.tape, hb.output, hb.size, fun k hk _ => hb.block k hk⟩ (by cases hv : v.ownBlock <;> simp)

theorem inR (B : Nat) (v : Value) (L : List Nat) (n : Nat) (w : World) (hv : OwnN w B v L) (hl : L.length ≤ 4294967296) :
    Calls Try.prog 41 #[v, .int .i64 (n : Int)] w fun e w' => e = .returned (.bool (decide (n ∈ L))) ∧ w' = w := by
  obtain ⟨a, len, cap, rfl, HL, hc1, hc2⟩ := hv.shape
  have HV := hid hv
  have hlen : len ≤ 4294967296 := by rw [HL.out]; exact hl
  clear hv hl
  go_enter Try.func41, Try.ntmps41
  go_upto_region 2 with fail
  go_loopw [5] (fun x wr => ∃ j : Nat, x = .int .i64 (j : Int) ∧ j ≤ len ∧ Hid (n ∉ L.take j) ∧ wr = w) (fun x _ => len - (intOf x).toNat)
  case atStart => exact ⟨0, rfl, Nat.zero_le _, hid (by simp), rfl⟩
  case round =>
    obtain ⟨j, rfl, hj, HNI, rfl⟩ := hrel
    by_cases hjl : j < len
    · have hlt : j < L.length := by have := HL.out; omega
      obtain ⟨g, rfl, hg, hcell⟩ := HV.out.at (List.getElem?_eq_getElem hlt)
      have c0 := hcell wr rfl
      have HTK : Hid (L.take (j + 1) = L.take j ++ [L[j]]) := List.take_succ_eq_append_getElem hlt
      have HMJ : Hid (L[j] ∈ L) := List.getElem_mem hlt
      generalize L[j] = x at *
      clear hcell hg
      by_cases he : (x : Int) = (n : Int)
      · have HF : Hid (decide (n ∈ L) = true) := by
          have : x = n := by omega
          unfold Hid; rw [decide_eq_true_eq, ← this]; exact HMJ.out
        go_wp2_with fail
        go_ret
        exact ⟨ret_bool HF.out.symm, rfl⟩
      · have HN2 : Hid (n ∉ L.take (j + 1)) := by
          unfold Hid
          rw [HTK.out, List.mem_append, List.mem_singleton]
          rintro (h | h)
          · exact HNI.out h
          · omega
        have he2 : ((x : Int) == (n : Int)) = false := by simp; omega
        go_wp2_with fail
        go_roundw
        case rel => exact ⟨j + 1, by go_num, by omega, HN2, trivial⟩
        case measure => simp [intOf]; omega
    · have HF : Hid (decide (n ∈ L) = false) := by
        unfold Hid
        rw [decide_eq_false_iff_not]
        have h := HNI.out
        rw [List.take_of_length_le (by have := HL.out; omega)] at h
        exact h
      go_wp2_with fail
      go_ret
      exact ⟨ret_bool HF.out.symm, rfl⟩
end Go.Proofs.Ytahoileampdnkaa
