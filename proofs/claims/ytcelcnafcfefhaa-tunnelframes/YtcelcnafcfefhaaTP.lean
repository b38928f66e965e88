/-
  weftlaw7.sameFrame: frames that are the same.
-/
import Derived.Test.YtcelcnafcfefhaaTL
import Derived.Test.YtcelcnafcfefhaaTI
namespace Go.Proofs.Ytcelcnafcfefhaa.N
open Go.ChangeShapes Go.WideShapes Go.ChangeAt Go.RowKit
set_option maxHeartbeats 8000000
set_option maxRecDepth 100000

theorem six {D : List Nat} (h : D.length = 6) : ∃ a b c d e f, D = [a, b, c, d, e, f] := by
  match D, h with
  | [a, b, c, d, e, f], _ => exact ⟨a, b, c, d, e, f, rfl⟩

theorem fr_loads {u : World} {n : Nat} {f : Tn.Fr} {vb : Value} {t : TypeId} (hok : f.Ok) (hb : u.heap[n]? = some (.cells (frCells f vb) t (0, 0))) :
    (Instr.loadAt 39 (.pointer (some ⟨n, 0, none⟩))).run Try.prog u = .ok (.agg (bs f.dst).toArray) u ∧ (Instr.loadAt 39 (.pointer (some ⟨n, 6, none⟩))).run Try.prog u = .ok (.agg (bs f.src).toArray) u := by
  have h6 : (Try.prog.info? 39).map (·.size) = some 6 := by kernel_rfl
  refine ⟨?_, ?_⟩
  · refine run_loadAt_mid u n 0 39 (bs f.dst) (.array 6 5) (fun j v hv => ?_) Try.underlying39 rfl (by rw [bs_len, hok.dst]; exact h6)
    have hj : j < 6 := by have := (List.getElem?_eq_some_iff.1 hv).1; rw [bs_len, hok.dst] at this; exact this
    rw [Nat.zero_add, cell_fr hb j, frc_dst hok.dst f.ty vb j hj, hv]
  · refine run_loadAt_mid u n 6 39 (bs f.src) (.array 6 5) (fun j v hv => ?_) Try.underlying39 rfl (by rw [bs_len, hok.src]; exact h6)
    have hj : j < 6 := by have := (List.getElem?_eq_some_iff.1 hv).1; rw [bs_len, hok.src] at this; exact this
    rw [cell_fr hb (6 + j), frc_src hok.dst hok.src f.ty vb j hj, hv]

theorem eq6 (x0 x1 x2 x3 x4 x5 : Int) (u : World) : (Op.equalIn 10000 39 (.agg #[.int .u8 x0, .int .u8 x1, .int .u8 x2, .int .u8 x3, .int .u8 x4, .int .u8 x5]) (.agg #[.int .u8 x0, .int .u8 x1, .int .u8 x2, .int .u8 x3, .int .u8 x4, .int .u8 x5])).run Try.prog u = .ok true u := by
  have hu : Try.prog.underlying 39 = some (.array 6 5) := Try.underlying39
  have h5 : Try.prog.underlying 5 = some (.int .u8) := by kernel_rfl
  have hsz : (sizeOf 5).run Try.prog u = .ok 1 u := by kernel_rfl
  have hi : ∀ (x : Int) (w : World), (Op.equalIn 9999 5 (.int .u8 x) (.int .u8 x)).run Try.prog w = .ok true w := fun x w => by
    have := run_equalIn_int (P := Try.prog) w 9998 5 .u8 .u8 x x h5
    simpa using this
  rw [show (10000 : Nat) = 9999 + 1 from rfl, Op.equalIn]
  simp [run_underlying hu, hsz, part, hi, Std.Legacy.Range.forIn_eq_forIn_range', List.range', Result.andThen]

theorem sameFrame_self (f : Tn.Fr) (va vb : Value) (w : World) (hok : f.Ok) (hva : SeesB w va f.B) (hvb : SeesB w vb f.B) :
    Calls Try.prog 21 #[.agg (frCells f va), .agg (frCells f vb)] w fun e w' => e = .returned (.bool true) ∧ Below w.heap.size w w' := by
  obtain ⟨ao, n, cap, rfl, _, _, _⟩ := hva.shape
  obtain ⟨bo, m, bcap, rfl, _, _, _⟩ := hvb.shape
  obtain ⟨w1, hw1⟩ : ∃ w1, w1 = w.alloc (.cells (frCells f (.slice ao n cap)) 41) := ⟨_, rfl⟩
  obtain ⟨w2, hw2⟩ : ∃ w2, w2 = w1.alloc (.cells (frCells f (.slice bo m bcap)) 41) := ⟨_, rfl⟩
  have hs1 : w1.heap.size = w.heap.size + 1 := by rw [hw1]; simp
  have hb1 : Below w.heap.size w w1 := by rw [hw1]; exact (Below.refl _ _).alloc (Nat.le_refl _) _
  have hb2 : Below w.heap.size w w2 := by rw [hw2]; exact hb1.alloc (by omega) _
  have hr1 : w2.heap[w.heap.size]? = some (.cells (frCells f (.slice ao n cap)) 41 (0, 0)) := by rw [hw2, heap_alloc_old _ _ (by omega), hw1]; exact heap_alloc_new w _
  have hr2 : w2.heap[w.heap.size + 1]? = some (.cells (frCells f (.slice bo m bcap)) 41 (0, 0)) := by rw [hw2, ← hs1]; exact heap_alloc_new w1 _
  obtain ⟨c12, c13⟩ := fr_at hok hr1
  obtain ⟨d12, d13⟩ := fr_at hok hr2
  obtain ⟨l0, l6⟩ := fr_loads hok hr1
  obtain ⟨m0, m6⟩ := fr_loads hok hr2
  obtain ⟨x0, x1, x2, x3, x4, x5, hD⟩ := six hok.dst
  obtain ⟨y0, y1, y2, y3, y4, y5, hS⟩ := six hok.src
  rw [hD] at l0 m0
  rw [hS] at l6 m6
  have HL0 := hid (show (Instr.loadAt 39 (.pointer (some ⟨w.heap.size, 0, none⟩))).run Try.prog w2 = .ok (.agg #[.int .u8 (x0 : Int), .int .u8 (x1 : Int), .int .u8 (x2 : Int), .int .u8 (x3 : Int), .int .u8 (x4 : Int), .int .u8 (x5 : Int)]) w2 from l0)
  have HM0 := hid (show (Instr.loadAt 39 (.pointer (some ⟨w.heap.size + 1, 0, none⟩))).run Try.prog w2 = .ok (.agg #[.int .u8 (x0 : Int), .int .u8 (x1 : Int), .int .u8 (x2 : Int), .int .u8 (x3 : Int), .int .u8 (x4 : Int), .int .u8 (x5 : Int)]) w2 from m0)
  have HL6 := hid (show (Instr.loadAt 39 (.pointer (some ⟨w.heap.size, 6, none⟩))).run Try.prog w2 = .ok (.agg #[.int .u8 (y0 : Int), .int .u8 (y1 : Int), .int .u8 (y2 : Int), .int .u8 (y3 : Int), .int .u8 (y4 : Int), .int .u8 (y5 : Int)]) w2 from l6)
  have HM6 := hid (show (Instr.loadAt 39 (.pointer (some ⟨w.heap.size + 1, 6, none⟩))).run Try.prog w2 = .ok (.agg #[.int .u8 (y0 : Int), .int .u8 (y1 : Int), .int .u8 (y2 : Int), .int .u8 (y3 : Int), .int .u8 (y4 : Int), .int .u8 (y5 : Int)]) w2 from m6)
  have HSA := hid (same_self _ _ _ w2 (hva.below hb2) (hvb.below hb2))
  have HB2 := hid hb2
  have HW2 : Hid (w2 = (w.alloc (.cells (frCells f (.slice ao n cap)) 41)).alloc (.cells (frCells f (.slice bo m bcap)) 41)) := by unfold Hid; rw [hw2, hw1]
  clear hw1 hw2 hs1 hb1 hb2 hr1 hr2 l0 l6 m0 m6 hD hS hva hvb
  have hq0 := eq6 (x0 : Int) (x1 : Int) (x2 : Int) (x3 : Int) (x4 : Int) (x5 : Int)
  have hq6 := eq6 (y0 : Int) (y1 : Int) (y2 : Int) (y3 : Int) (y4 : Int) (y5 : Int)
  generalize frCells f (.slice ao n cap) = fa at *
  generalize frCells f (.slice bo m bcap) = fb at *
  go_enter Try.func21, Try.ntmps21
  go_upto_region 1 with fail
  rw [← HW2.out]
  go_wp2_with (first
    | (refine wpList_ld 39 ⟨w.heap.size, 0, none⟩ (.tmp 5) rfl rfl HL0.out rfl ?_)
    | (refine wpList_ld 39 ⟨w.heap.size + 1, 0, none⟩ (.tmp 7) rfl rfl HM0.out rfl ?_)
    | (refine wpList_ld 39 ⟨w.heap.size, 6, none⟩ (.tmp 11) rfl rfl HL6.out rfl ?_)
    | (refine wpList_ld 39 ⟨w.heap.size + 1, 6, none⟩ (.tmp 13) rfl rfl HM6.out rfl ?_)
    | fail)
  refine HSA.out.mono ?_
  rintro _ w3 ⟨rfl, hb3⟩
  have HB3 := hid (HB2.out.trans (hb3.mono HB2.out.size))
  clear hb3
  go_wp2_with fail
  go_ret
  exact ⟨rfl, HB3.out⟩
end Go.Proofs.Ytcelcnafcfefhaa.N
