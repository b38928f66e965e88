import Derived.Test.YtdoeebbcieiimaaBB
import Derived.Test.YtdoeebbcieiimaaK
import Derived.Test.YtdoeebbcieiimaaW
namespace Go.Proofs.Ytdoeebbcieiimaa
open Go.ChangeShapes Go.WideShapes Go.ChangeAt Go.RowKit
set_option maxHeartbeats 400000
set_option maxRecDepth 100000

theorem But.of_below {g : Nat} {w w' : World} (hb : Below w.heap.size w w') : But g w w' := ⟨hb.os, hb.tape, hb.output, hb.size, fun i hi _ => hb.block i hi⟩
theorem Blk.below {g : Nat} {w w' : World} {X : List Nat} (h : Blk w g X) (hb : Below w.heap.size w w') : Blk w' g X := (hb.block g h.lt).trans h

/-- A cut of a block of bytes. -/
theorem Blk.sees {g : Nat} {w : World} {X : List Nat} (h : Blk w g X) (hx : ∀ x ∈ X, x < 256) (o k c : Nat) (hk : o + k ≤ X.length) (hc : k ≤ c) (hcm : c ≤ maxLen) : SeesB w (.slice (some ⟨g, o, none⟩) k c) ((X.drop o).take k) := by
  have hl : ((X.drop o).take k).length = k := by rw [List.length_take, List.length_drop]; omega
  refine ⟨some ⟨g, o, none⟩, c, by rw [hl], ⟨by rw [hl]; exact hc, fun h => by cases h⟩, hcm, fun j hj => ?_⟩
  rw [hl] at hj
  have e : ((X.drop o).take k)[j]'(by rw [hl]; exact hj) = byt X (o + j) := by
    rw [List.getElem_take, List.getElem_drop]
    unfold byt
    rw [List.getD_eq_getElem?_getD, List.getElem?_eq_getElem (by omega)]
    rfl
  refine ⟨g, o, rfl, h.lt, ?_, ?_⟩
  · rw [h.cell (o + j) (by omega), e]
  · rw [e]; exact byt_lt hx _

theorem csum_gap (A B : List Nat) (hA : A.length % 2 = 0) : M.csum (A ++ 0 :: 0 :: B) = M.csum (A ++ B) := by
  unfold M.csum
  rw [M.tot_append, M.tot_append]
  have : M.par false A.length = false := by unfold M.par; rw [if_pos hA]
  rw [this]
  simp [M.tot]

set_option maxHeartbeats 2000000 in
/-- The sum is written into a header. -/
theorem seal_any (g size cap : Nat) (X : List Nat) (w : World) (hB : Blk w g X) (hx : ∀ x ∈ X, x < 256) (hs : 20 ≤ size) (hsz : size ≤ X.length) (hc : size ≤ cap) (hcap : cap ≤ 1099511627776) :
    Calls Try.prog 31 #[.slice (some ⟨g, 0, none⟩) size cap] w fun e w' => e = .returned (.tuple #[]) ∧ Blk w' g ((X.set 10 (M.csum (X.take 10 ++ (X.take size).drop 12) / 256)).set 11 (M.csum (X.take 10 ++ (X.take size).drop 12) % 256)) ∧ But g w w' := by
  have s1 : SeesB w.drew (.slice (some ⟨g, 0, none⟩) 10 cap) (X.take 10) := by
    have := (show Blk w.drew g X from hB).sees hx 0 10 cap (by omega) (by omega) (by unfold maxLen; omega)
    simpa using this
  have s2 : SeesB w.drew (.slice (some ⟨g, 12, none⟩) (size - 12) (cap - 12)) ((X.take size).drop 12) := by
    have := (show Blk w.drew g X from hB).sees hx 12 (size - 12) (cap - 12) (by omega) (by omega) (by unfold maxLen; omega)
    rwa [List.drop_take]
  obtain ⟨wA, hwA⟩ : ∃ wA, wA = w.drew.alloc (.cells #[.slice (some ⟨g, 0, none⟩) 10 cap, .slice (some ⟨g, 12, none⟩) (size - 12) (cap - 12)] 22) := ⟨_, rfl⟩
  have hbA : Below w.heap.size w wA := by rw [hwA]; exact (below_drew (Below.refl w.heap.size w)).alloc (Nat.le_refl _) _
  have HSM := sum_code _ _ _ (seesBB_two (w := w.drew) rfl _ _ _ _ s1 s2 22) (by simp; omega)
  rw [show [X.take 10, (X.take size).drop 12].flatten = X.take 10 ++ (X.take size).drop 12 by simp] at HSM
  have hlt := M.csum_lt (X.take 10 ++ (X.take size).drop 12)
  generalize M.csum (X.take 10 ++ (X.take size).drop 12) = s at *
  have HC : Hid (∀ u, Below w.heap.size w u → Calls Try.prog 57 #[.slice (some ⟨g, 10, none⟩) (size - 10) (cap - 10), .int .u16 (s : Int)] u fun e w' => e = .returned (.tuple #[]) ∧ Blk w' g ((X.set 10 (s / 256)).set (10 + 1) (s % 256)) ∧ But g u w') := fun u hu => write16_any g 10 (size - 10) (cap - 10) s X u (hB.below hu) (by omega) (by omega) hlt
  have HSM : Hid (Calls Try.prog 60 #[.slice (some ⟨w.heap.size, 0, none⟩) 2 2] (w.drew.alloc (.cells #[.slice (some ⟨g, 0, none⟩) 10 cap, .slice (some ⟨g, 12, none⟩) (size - 12) (cap - 12)] 22)) fun e w' => e = .returned (.int .u16 (s : Int)) ∧ Below w.heap.size w w') := by
    refine HSM.mono ?_
    rintro e w' ⟨rfl, hb⟩
    rw [← hwA] at hb
    exact ⟨rfl, hbA.trans (hb.mono hbA.size)⟩
  have k10 : ∀ u : World, (Instr.sliceAt 22 (.slice (some ⟨g, 0, none⟩) size cap) (some (.int .i64 10)) none none).run Try.prog u = .ok (.slice (some ⟨g, 10, none⟩) (size - 10) (cap - 10)) u := fun u => by
    have := cut_at g 0 size cap 10 10 rfl (by omega) (by omega) u
    rwa [Nat.zero_add] at this
  have k12 : ∀ u : World, (Instr.sliceAt 22 (.slice (some ⟨g, 0, none⟩) size cap) (some (.int .i64 12)) none none).run Try.prog u = .ok (.slice (some ⟨g, 12, none⟩) (size - 12) (cap - 12)) u := fun u => by
    have := cut_at g 0 size cap 12 12 rfl (by omega) (by omega) u
    rwa [Nat.zero_add] at this
  have hz : ∀ u : World, (Instr.sliceAt 22 (.slice (some ⟨g, 0, none⟩) size cap) none (some (.int .i64 10)) none).run Try.prog u = .ok (.slice (some ⟨g, 0, none⟩) 10 cap) u := fun u => by
    have hu : Try.prog.underlying 22 = some (.slice (Try.prog.elem 22)) := by kernel_rfl
    have hsz : (sizeOf (Try.prog.elem 22)).run Try.prog u = .ok 1 u := by kernel_rfl
    rw [run_sliceAt_slice (h := hu), run_slice_h (ht := hu) (h0 := by omega) (h2 := by omega), hsz]
    simp [Result.andThen, sliced, Addr.add]
  clear s1 s2 hB hwA hbA
  generalize size - 10 = z10 at *
  generalize size - 12 = z12 at *
  generalize cap - 10 = c10 at *
  generalize cap - 12 = c12 at *
  go_enter Try.func31, Try.ntmps31
  go_wp2_with fail
  go_region_with (first | (go_at_call 60; refine HSM.out.mono ?_; rintro _ w2 ⟨rfl, hb2⟩) | (go_at_call 57; refine (HC.out _ hb2).mono ?_; rintro _ w3 ⟨rfl, hB3, hu3⟩) | fail)
  all_goals (
    go_wp2_with fail
    exact bodyPost_end (results_none Try.results31 _ _ _) rfl ⟨rfl, hB3, (But.of_below hb2).trans hu3⟩)
end Go.Proofs.Ytdoeebbcieiimaa
