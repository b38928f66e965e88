import Derived.Test.YthpokoiclfbddaaDoorYFlE
namespace Go.Proofs.YthpokoiclfbddaaDoor.Fl
open Go.Proofs.YthpokoiclfbddaaDoor Go.ChangeShapes Go.WideShapes Go.ChangeAt Go.RowKit Go.Maps N
set_option maxHeartbeats 4000000
set_option maxRecDepth 100000

theorem build_ztu (u : World) : (Instr.build 38 #[]).run Tryd.prog u = .ok (.agg zTu.cells) u := by kernel_rfl

/-- What Of tells. -/
def ofT (h : Hd) (B : List Nat) : Tu := match rdC h B with | some c => tupC h c | none => zTu
theorem of_any (h : Hd) (vo vb : Value) (B : List Nat) (w : World) (hok : h.Ok) (hvo : SeesB w vo h.opts) (hvb : SeesB w vb B) (hlo : h.opts.length ≤ 140737488355328) (hlb : B.length ≤ 140737488355328) :
    Calls Tryd.prog 28 #[.agg (pkCells h vo vb)] w fun e w' => e = .returned (.tuple #[.agg (ofT h B).cells, .int .i64 (rdE h B)]) ∧ Below w.heap.size w w' := by
  obtain ⟨wa, HWA⟩ : ∃ wa, Hid (wa = w.alloc (.cells (pkCells h vo vb) 36)) := ⟨_, rfl⟩
  obtain ⟨w0, HW0⟩ : ∃ w0, Hid (w0 = wa.alloc (.cells #[.int .u32 0, .int .u32 0, .int .u8 0, .int .u16 0, .int .u16 0] 38)) := ⟨_, rfl⟩
  obtain ⟨g0, HG0⟩ : ∃ g, Hid (g = w.heap.size) := ⟨_, rfl⟩
  have sa : wa.heap.size = g0 + 1 := by rw [HWA.out, HG0.out]; simp
  have s0 : w0.heap.size = g0 + 2 := by rw [HW0.out, World.size_alloc, sa]
  have ba : Below w.heap.size w wa := by rw [HWA.out]; exact (Below.refl _ _).alloc (Nat.le_refl _) _
  have bb : Below wa.heap.size wa w0 := by rw [HW0.out]; exact (Below.refl _ _).alloc (Nat.le_refl _) _
  have ra : wa.heap[g0]? = some (.cells (pkCells h vo vb) 36 (0, 0)) := by rw [HWA.out, HG0.out]; exact heap_alloc_new w _
  have r1 : w0.heap[g0 + 1]? = some (.cells zTu.cells 38 (0, 0)) := by
    have := heap_alloc_new wa (.cells zTu.cells 38); rw [sa] at this; rw [HW0.out]; exact this
  have r0 := below_keeps bb ra (by omega)
  have hb0 : Below w.heap.size w w0 := ba.trans (bb.mono ba.size)
  have HB0 := hid hb0
  have HGW : Hid (w.heap.size ≤ g0) := by unfold Hid; rw [HG0.out]; exact Nat.le_refl _
  have HPL := hid (pk_load r0)
  have HBW : Hid (∀ u : World, Below w0.heap.size w0 u → u.heap[g0]? = some (.cells (pkCells h vo vb) 36 (0, 0)) ∧ u.heap[g0 + 1]? = some (.cells zTu.cells 38 (0, 0))) := fun u hu => ⟨below_keeps hu r0 (by omega), below_keeps hu r1 (by omega)⟩
  have HALLOC : Hid ((w.alloc (.cells (pkCells h vo vb) 36)).alloc (.cells #[.int .u32 0, .int .u32 0, .int .u8 0, .int .u16 0, .int .u16 0] 38) = w0) := by unfold Hid; rw [HW0.out, HWA.out]
  have HRD := hid (read_any h vo vb B w0 hok (hvo.below hb0) (hvb.below hb0) hlo hlb)
  have HE0 : Hid (∀ c, rdC h B = some c → rdE h B = 0) := fun c hc => (rdC_some hc).1
  have HEN : Hid (rdC h B = none → rdE h B ≠ 0) := fun hn e => by
    obtain ⟨c, hc⟩ := rdE_zero e
    unfold rdC at hn
    rw [if_pos e, hc] at hn
    cases hn
  generalize hpkE : pkCells h vo vb = pk at HALLOC HRD HPL
  have HPK := hid hpkE
  clear hok hvo hvb hlo hlb sa s0 ba bb ra r0 r1 hb0 hpkE HWA HW0
  go_enter Tryd.func28, Tryd.ntmps28
  go_upto_region 1 with fail
  rw [HALLOC.out, ← HG0.out]
  go_wp2_with (first | (refine wpList_ld 36 ⟨g0, 0, none⟩ (.tmp 1) rfl rfl HPL.out rfl ?_) | fail)
  refine HRD.out.mono ?_
  rintro _ w1 ⟨rfl, hb1⟩
  have HB1 := hid hb1
  have HBB := hid (HB0.out.trans (hb1.mono HB0.out.size))
  clear hb1
  have HZ1 := hid (HBW.out w1 HB1.out).2
  cases hC : rdC h B with
  | none =>
    have HV : Hid (ofT h B = zTu) := by unfold Hid ofT; rw [hC]
    have HNZ := hid (HEN.out hC)
    obtain ⟨E, HE⟩ : ∃ E, Hid (E = rdE h B) := ⟨_, rfl⟩
    rw [← HE.out] at HNZ ⊢
    have qE : (E != 0) = true := by have := HNZ.out; simp [this]
    clear hC
    go_wp2_with (first | (refine wpList_val (ex_build 38 _ #[] _ rfl rfl (build_ztu _)) rfl ?_) | (refine wpList_st rfl 38 (.tmp 2) (.tmp 13) rfl (g0 + 1) zTu.cells rfl rfl _ zTu.cells HZ1.out (by kernel_rfl) rfl zTu.one ?_; intro w6 hw6 hbut6) | fail)
    have hlv := lv_tu hw6
    refine bodyPost_ret (v := .tuple #[.agg zTu.cells, .int .i64 E]) (by simp [results, Tryd.results28, asAddr, hlv]) rfl ?_
    rw [HV.out, ← HE.out]
    exact ⟨rfl, hbut6.below HBB.out HBB.out.size (by have := HGW.out; omega)⟩
  | some c =>
    have hE0 := HE0.out c hC
    have HEZ := hid hE0
    have HV : Hid (ofT h B = tupC h c) := by unfold Hid ofT; rw [hC]
    rw [hE0]
    have HLH := hid (pk_loadH (HBW.out w1 HB1.out).1)
    have HTP := hid (tupleOf_any h vo c w1)
    obtain ⟨t, HTT⟩ : ∃ t, Hid (t = tupC h c) := ⟨_, rfl⟩
    rw [← HTT.out] at HTP
    clear hE0 hC
    go_wp2_with (first | (refine wpList_ld 34 ⟨g0, 0, none⟩ (.tmp 15) rfl rfl HLH.out rfl ?_) | fail)
    refine HTP.out.mono ?_
    rintro _ w2 ⟨rfl, hb2⟩
    have HB2 := hid (HB1.out.trans (hb2.mono HB1.out.size))
    have HBB2 := hid (HB0.out.trans (HB2.out.mono HB0.out.size))
    have HZ2 := hid (HBW.out w2 HB2.out).2
    clear hb2
    go_wp2_with (first | (refine wpList_st rfl 38 (.tmp 2) (.tmp 18) rfl (g0 + 1) t.cells rfl rfl _ zTu.cells HZ2.out (by kernel_rfl) rfl t.one ?_; intro w6 hw6 hbut6) | fail)
    have hlv := lv_tu hw6
    refine bodyPost_ret (v := .tuple #[.agg t.cells, .int .i64 0]) (by simp [results, Tryd.results28, asAddr, hlv]) rfl ?_
    rw [HV.out, ← HTT.out, HEZ.out]
    exact ⟨rfl, hbut6.below HBB2.out HBB2.out.size (by have := HGW.out; omega)⟩

end Go.Proofs.YthpokoiclfbddaaDoor.Fl
