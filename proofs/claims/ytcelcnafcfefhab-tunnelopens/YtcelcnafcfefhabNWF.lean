import Derived.Test.YtcelcnafcfefhabNWC
import Derived.Test.YtcelcnafcfefhabNWE
import Derived.Test.YtcelcnafcfefhabNK
namespace Go.Proofs.Ytcelcnafcfefhab.N
open Go.ChangeShapes Go.WideShapes Go.ChangeAt Go.RowKit
set_option maxHeartbeats 1000000
set_option maxRecDepth 100000

/-- The program's Parse. -/
theorem parse_code (v : Value) (L : List Nat) (w : World) (hv : SeesB w v L) (hl : L.length ≤ 140737488355328) :
    Calls Try.prog 47 #[v] w fun e w' => ∃ vo vb, e = .returned (.tuple #[.agg (pkCells (parsed L).1 vo vb), .int .i64 (parsed L).2.2]) ∧ SeesB w' vo (parsed L).1.opts ∧ SeesB w' vb (parsed L).2.1 ∧ Below w.heap.size w w' := by
  by_cases he : (exam L true).2.2 = 0
  · exact parse_good v L w hv hl he
  · exact parse_bad v L w hv hl he

/-- The reference's read, the whole packet. -/
theorem read_true (v : Value) (L : List Nat) (w : World) (hv : SeesB w v L) (hl : L.length ≤ 140737488355328) :
    Calls Try.prog 79 #[v, .bool true] w fun e w' => ∃ vo vb, e = .returned (.tuple #[.agg (pkCells (parsed L).1 vo vb), .int .i64 (parsed L).2.2]) ∧ SeesB w' vo (parsed L).1.opts ∧ SeesB w' vb (parsed L).2.1 ∧ (∀ a n c, vo = .slice (some a) n c → w.heap.size ≤ a.block) ∧ (∀ a n c, vb = .slice (some a) n c → w.heap.size ≤ a.block) ∧ Below w.heap.size w w' := by
  by_cases he : (exam L true).2.2 = 0
  · have := read_good v L true w hv hl he
    have hp : parsed L = (rdH (L.take (exam L true).2.1) (exam L true).1, (L.take (exam L true).2.1).drop (exam L true).1, 0) := by unfold parsed; rw [if_pos he]
    rw [hp]
    exact this
  · have hp : parsed L = (zeroH, [], (exam L true).2.2) := by unfold parsed; rw [if_neg he]
    rw [hp]
    refine (read_bad v L true w hv hl he).mono ?_
    rintro e w' ⟨rfl, hb⟩
    exact ⟨.slice none 0 0, .slice none 0 0, rfl, sees_nil _, sees_nil _, (fun _ _ _ h => by cases h), (fun _ _ _ h => by cases h), hb⟩

theorem parse_ref (v : Value) (L : List Nat) (w : World) (hv : SeesB w v L) (hl : L.length ≤ 140737488355328) :
    Calls Try.prog 52 #[v] w fun e w' => ∃ vo vb, e = .returned (.tuple #[.agg (pkCells (parsed L).1 vo vb), .int .i64 (parsed L).2.2]) ∧ SeesB w' vo (parsed L).1.opts ∧ SeesB w' vb (parsed L).2.1 ∧ Below w.heap.size w w' := by
  obtain ⟨w1, hw1⟩ : ∃ w1, w1 = w.alloc (.cells Z29 77) := ⟨_, rfl⟩
  have hb1 : Below w.heap.size w w1 := by rw [hw1]; exact (Below.refl _ _).alloc (Nat.le_refl _) _
  have hs1 : w1.heap.size = w.heap.size + 1 := by rw [hw1]; simp
  have HRD := hid (read_true v L w1 (hv.below hb1) hl)
  have HTH : Hid (∀ u, Below w1.heap.size w1 u → u.there w.heap.size 0 11) := fun u hu => by
    refine there_blk (C := Z29) (t := 77) ?_ rfl
    rw [hu.block _ (by omega), hw1]
    exact heap_alloc_new w _
  have HW1 : Hid (w1 = w.alloc (.cells #[.int .u8 0, .int .u16 0, .bool false, .bool false, .int .i64 0, .int .u8 0, .int .u8 0, .int .u32 0, .int .u32 0, .slice none 0 0, .slice none 0 0] 77)) := hw1
  have HB1 := hid hb1
  have HS1 := hid hs1
  obtain ⟨ao, n, cap, rfl, _, _, _⟩ := hv.shape
  clear hw1 hb1 hs1 hv
  generalize parsed L = t at *
  obtain ⟨h, B, z⟩ := t
  simp only at *
  go_enter Try.func52, Try.ntmps52
  go_upto_region 1 with fail
  rw [← HW1.out]
  go_wp2_with fail
  refine HRD.out.mono ?_
  rintro _ w2 ⟨vo, vb, rfl, hso, hsb, hko, hkb, hb2⟩
  have HTZ := hid (HTH.out _ hb2)
  obtain ⟨a1, n1, c1, rfl, _, _, _⟩ := hso.shape
  obtain ⟨a2, n2, c2, rfl, _, _, _⟩ := hsb.shape
  obtain ⟨zz, hzz⟩ : ∃ zz : Array Value, zz = pkCells h (.slice a1 n1 c1) (.slice a2 n2 c2) := ⟨_, rfl⟩
  have HZZ := hid hzz
  obtain ⟨fs, hu29⟩ := und29
  have HSZZ : Hid ((Try.prog.info? 77).map (·.size) = some zz.size) := by unfold Hid; rw [hzz]; exact size29'
  have HONE : Hid (zz.all (·.oneCell') = true) := by unfold Hid; rw [hzz]; simp [pkCells, Value.oneCell']
  have HTZ' : Hid (w2.there w.heap.size 0 zz.size) := by unfold Hid; rw [hzz]; exact HTZ.out
  have HLV : Hid ((loadVar 77 ⟨w.heap.size, 0, none⟩).run Try.prog (w2.setCells w.heap.size 0 zz.toList) = .ok (.agg zz) (w2.setCells w.heap.size 0 zz.toList)) := by
    have hrg := World.rangeAt_setCells_same w2 w.heap.size 0 zz.toList (by rw [Array.length_toList]; exact HTZ'.out)
    exact run_loadVar_mid _ w.heap.size 0 77 zz.toList (.struct fs) hrg hu29 rfl (by rw [Array.length_toList]; exact HSZZ.out)
  have HBF : Hid (Below w.heap.size w (w2.setCells w.heap.size 0 zz.toList)) := below_setCells' (Nat.le_refl _) _ _ _ (HB1.out.trans (hb2.mono HB1.out.size))
  have HSO : Hid (SeesB (w2.setCells w.heap.size 0 zz.toList) (.slice a1 n1 c1) h.opts) := sees_set' hso (fun x hx => by have := hko x n1 c1 (by rw [hx]); have := HS1.out; omega)
  have HSB : Hid (SeesB (w2.setCells w.heap.size 0 zz.toList) (.slice a2 n2 c2) B) := sees_set' hsb (fun x hx => by have := hkb x n2 c2 (by rw [hx]); have := HS1.out; omega)
  rw [← hzz]
  clear hzz hso hsb hko hkb hb2 hu29 HTH HTZ HRD
  go_wp2_with (first
    | (refine wpList_store_mid rfl 77 (.tmp 2) (.tmp 6) rfl w.heap.size 0 zz rfl rfl HTZ'.out HSZZ.out HONE.out ?_)
    | fail)
  generalize w2.setCells w.heap.size 0 zz.toList = wf at HLV HBF HSO HSB ⊢
  refine bodyPost_ret (v := .tuple #[.agg zz, .int .i64 z]) (by simp [results, Try.results52, asAddr, HLV.out]) rfl ?_
  exact ⟨.slice a1 n1 c1, .slice a2 n2 c2, by rw [HZZ.out], HSO.out, HSB.out, HBF.out⟩

end Go.Proofs.Ytcelcnafcfefhab.N
