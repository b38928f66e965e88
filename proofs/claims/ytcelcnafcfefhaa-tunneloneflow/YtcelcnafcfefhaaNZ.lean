import Derived.Test.YtcelcnafcfefhaaNX
import Derived.Test.YtcelcnafcfefhaaNG
namespace Go.Proofs.Ytcelcnafcfefhaa.N
open Go.ChangeShapes Go.WideShapes Go.ChangeAt Go.RowKit
set_option maxHeartbeats 400000
set_option maxRecDepth 100000

theorem size29 : (Try.prog.info? 52).map (·.size) = some 11 := by kernel_rfl

/-- What Parse answers: the header, the body, the error. -/
def parsed (L : List Nat) : Hd × List Nat × Int :=
  if (exam L true).2.2 = 0 then (rdH (L.take (exam L true).2.1) (exam L true).1, (L.take (exam L true).2.1).drop (exam L true).1, 0) else (zeroH, [], (exam L true).2.2)

set_option maxHeartbeats 400000 in
theorem parse_bad (v : Value) (L : List Nat) (w : World) (hv : SeesB w v L) (hl : L.length ≤ 140737488355328) (he : (exam L true).2.2 ≠ 0) :
    Calls Try.prog 41 #[v] w fun e w' => ∃ vo vb, e = .returned (.tuple #[.agg (pkCells (parsed L).1 vo vb), .int .i64 (parsed L).2.2]) ∧ SeesB w' vo (parsed L).1.opts ∧ SeesB w' vb (parsed L).2.1 ∧ Below w.heap.size w w' := by
  have hp : parsed L = (zeroH, [], (exam L true).2.2) := by unfold parsed; rw [if_neg he]
  rw [hp]
  have hb1 : Below w.heap.size w (w.alloc (.cells #[.int .u8 0, .int .u16 0, .bool false, .bool false, .int .i64 0, .int .u8 0, .int .u8 0, .int .u32 0, .int .u32 0, .slice none 0 0, .slice none 0 0] 52)) := (Below.refl _ _).alloc (Nat.le_refl _) _
  have HX := hid (exam_code v L true _ (hv.below hb1) hl)
  generalize exam L true = t at *
  obtain ⟨h, l, z⟩ := t
  simp only at *
  have hq : (z != 0) = true := by simp [he]
  have HBK : Hid (∀ u, Below (w.heap.size + 1) (w.alloc (.cells #[.int .u8 0, .int .u16 0, .bool false, .bool false, .int .i64 0, .int .u8 0, .int .u8 0, .int .u32 0, .int .u32 0, .slice none 0 0, .slice none 0 0] 52)) u → u.heap[w.heap.size]? = some (.cells #[.int .u8 0, .int .u16 0, .bool false, .bool false, .int .i64 0, .int .u8 0, .int .u8 0, .int .u32 0, .int .u32 0, .slice none 0 0, .slice none 0 0] 52)) := fun u hu => by
    rw [hu.block w.heap.size (by omega)]
    exact heap_alloc_new w _
  have HB1 := hid hb1
  obtain ⟨ao, n, cap, rfl, HN, hn1, hn2⟩ := hv.shape
  clear he hp hv hb1 hl
  simp only [World.size_alloc] at HX
  go_enter Try.func41, Try.ntmps41
  go_wp2_with fail
  refine HX.out.mono ?_
  rintro _ w2 ⟨rfl, hb2⟩
  have hz := HBK.out _ hb2
  have HTH : Hid (w2.there w.heap.size 0 11) := there_blk hz rfl
  have hbw : Below w.heap.size w w2 := HB1.out.trans (hb2.mono (by omega))
  obtain ⟨fs, hu29⟩ := und29
  have hrg := World.rangeAt_setCells_same w2 w.heap.size 0 [.int .u8 0, .int .u16 0, .bool false, .bool false, .int .i64 0, .int .u8 0, .int .u8 0, .int .u32 0, .int .u32 0, .slice none 0 0, .slice none 0 0] HTH.out
  have HLV : Hid ((loadVar 52 ⟨w.heap.size, 0, none⟩).run Try.prog (w2.setCells w.heap.size 0 [.int .u8 0, .int .u16 0, .bool false, .bool false, .int .i64 0, .int .u8 0, .int .u8 0, .int .u32 0, .int .u32 0, .slice none 0 0, .slice none 0 0]) = .ok (.agg #[.int .u8 0, .int .u16 0, .bool false, .bool false, .int .i64 0, .int .u8 0, .int .u8 0, .int .u32 0, .int .u32 0, .slice none 0 0, .slice none 0 0]) _) :=
    run_loadVar_mid _ w.heap.size 0 52 [.int .u8 0, .int .u16 0, .bool false, .bool false, .int .i64 0, .int .u8 0, .int .u8 0, .int .u32 0, .int .u32 0, .slice none 0 0, .slice none 0 0] (.struct fs) hrg hu29 rfl size29
  have HBF : Hid (Below w.heap.size w (w2.setCells w.heap.size 0 [.int .u8 0, .int .u16 0, .bool false, .bool false, .int .i64 0, .int .u8 0, .int .u8 0, .int .u32 0, .int .u32 0, .slice none 0 0, .slice none 0 0])) := below_setCells' (Nat.le_refl _) _ _ _ hbw
  have HONE : Hid ((#[.int .u8 0, .int .u16 0, .bool false, .bool false, .int .i64 0, .int .u8 0, .int .u8 0, .int .u32 0, .int .u32 0, .slice none 0 0, .slice none 0 0] : Array Value).all (·.oneCell') = true) := by unfold Hid; simp [Value.oneCell']
  have HINF : Hid ((Try.prog.info? 52).map (·.size) = some (#[.int .u8 0, .int .u16 0, .bool false, .bool false, .int .i64 0, .int .u8 0, .int .u8 0, .int .u32 0, .int .u32 0, .slice none 0 0, .slice none 0 0] : Array Value).size) := size29
  obtain ⟨zz, hzz⟩ : ∃ zz : Array Value, zz = #[.int .u8 0, .int .u16 0, .bool false, .bool false, .int .i64 0, .int .u8 0, .int .u8 0, .int .u32 0, .int .u32 0, .slice none 0 0, .slice none 0 0] := ⟨_, rfl⟩
  have HZZ := hid hzz
  have HTZ : Hid (w2.there w.heap.size 0 zz.size) := by rw [hzz]; exact HTH.out
  rw [← hzz] at HONE HINF
  clear hzz
  clear hz hrg hu29 hbw hb2 HBK HB1 HX
  go_wp2_with (first
    | (refine wpList_store_mid rfl 52 (.tmp 2) (.tmp 17) rfl w.heap.size 0 zz rfl (by rw [HZZ.out]; rfl) HTZ.out HINF.out HONE.out ?_)
    | fail)
  rw [HZZ.out]
  show bodyPost Try.prog Try.f41 _ Exit.ret _ (w2.setCells w.heap.size 0 [.int .u8 0, .int .u16 0, .bool false, .bool false, .int .i64 0, .int .u8 0, .int .u8 0, .int .u32 0, .int .u32 0, .slice none 0 0, .slice none 0 0])
  generalize w2.setCells w.heap.size 0 [.int .u8 0, .int .u16 0, .bool false, .bool false, .int .i64 0, .int .u8 0, .int .u8 0, .int .u32 0, .int .u32 0, .slice none 0 0, .slice none 0 0] = wf at HLV HBF ⊢
  refine bodyPost_ret (v := .tuple #[.agg #[.int .u8 0, .int .u16 0, .bool false, .bool false, .int .i64 0, .int .u8 0, .int .u8 0, .int .u32 0, .int .u32 0, .slice none 0 0, .slice none 0 0], .int .i64 z]) (by simp [results, Try.results41, asAddr, HLV.out]) rfl ?_
  exact ⟨.slice none 0 0, .slice none 0 0, by rfl, sees_nil _, sees_nil _, HBF.out⟩
end Go.Proofs.Ytcelcnafcfefhaa.N
