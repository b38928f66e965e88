import Derived.Test.YtdoeebbcieiimaaFA
namespace Go.Proofs.Ytdoeebbcieiimaa
open Go.ChangeShapes Go.WideShapes Go.ChangeAt Go.RowKit
set_option maxHeartbeats 1000000
set_option maxRecDepth 100000

theorem size22 : (Try.prog.info? 22).map (·.size) = some 1 := by kernel_rfl
theorem size3 : (Try.prog.info? 3).map (·.size) = some 1 := by kernel_rfl
theorem size4 : (Try.prog.info? 4).map (·.size) = some 1 := by kernel_rfl
theorem sz27 : (Try.prog.info? 27).map (·.size) = some 10 := by kernel_rfl
theorem sz29 : (Try.prog.info? 29).map (·.size) = some 11 := by kernel_rfl

theorem all_hd (h : Hd) (ao : Option Addr) (n c : Nat) : (hdCells h (.slice ao n c)).all (·.oneCell') = true := by simp [hdCells, Value.oneCell']
theorem all_pk (h : Hd) (ao : Option Addr) (n c : Nat) (ab : Option Addr) (m d : Nat) : (pkCells h (.slice ao n c) (.slice ab m d)).all (·.oneCell') = true := by simp [pkCells, Value.oneCell']

/-- A header that is read out of its own block. -/
theorem hd_load {u : World} {n : Nat} {h : Hd} {vo : Value} {t : TypeId} (hb : u.heap[n]? = some (.cells (hdCells h vo) t)) : (Instr.loadAt 27 (.pointer (some ⟨n, 0, none⟩))).run Try.prog u = .ok (.agg (hdCells h vo)) u := by
  obtain ⟨fs, hu⟩ := und27
  refine run_loadAt_mid u n 0 27 (hdCells h vo).toList (.struct fs) (fun j v hv => ?_) hu rfl (by rw [sz27]; rfl)
  have hj : j < 10 := (List.getElem?_eq_some_iff.1 hv).1
  rw [Nat.zero_add, cell_of_row u _ _ _ _ _ hb, ← hv, Array.getElem?_toList]

theorem hd_var {u : World} {n : Nat} {h : Hd} {vo : Value} {t : TypeId} (hb : u.heap[n]? = some (.cells (hdCells h vo) t)) : (loadVar 27 ⟨n, 0, none⟩).run Try.prog u = .ok (.agg (hdCells h vo)) u := by
  obtain ⟨fs, hu⟩ := und27
  refine run_loadVar_mid u n 0 27 (hdCells h vo).toList (.struct fs) (fun j v hv => ?_) hu rfl (by rw [sz27]; rfl)
  rw [Nat.zero_add, cell_of_row u _ _ _ _ _ hb, ← hv, Array.getElem?_toList]

theorem pk_var {u : World} {n : Nat} {h : Hd} {vo vb : Value} {t : TypeId} (hb : u.heap[n]? = some (.cells (pkCells h vo vb) t)) : (loadVar 29 ⟨n, 0, none⟩).run Try.prog u = .ok (.agg (pkCells h vo vb)) u := by
  obtain ⟨fs, hu⟩ := und29
  refine run_loadVar_mid u n 0 29 (pkCells h vo vb).toList (.struct fs) (fun j v hv => ?_) hu rfl (by rw [sz29]; rfl)
  rw [Nat.zero_add, cell_of_row u _ _ _ _ _ hb, ← hv, Array.getElem?_toList]

theorem OwnB.but {w w' : World} {base g : Nat} {v : Value} {L : List Nat} (h : OwnB w base v L) (hb : But g w w') (hg : g < base) : OwnB w' base v L := by
  refine ⟨h.1, ?_⟩
  rcases h.2 with hn | ⟨k, cap, cur, rfl, hk, hgg, rest⟩
  · exact .inl hn
  · exact .inr ⟨k, cap, cur, rfl, hk, (hb.block k (Array.getElem?_eq_some_iff.1 hgg).1 (by omega)).trans hgg, rest⟩

theorem But.keeps {g k : Nat} {w w' : World} {o : Obj} (h : But g w w') (hk : w.heap[k]? = some o) (hne : k ≠ g) : w'.heap[k]? = some o := (h.block k (Array.getElem?_eq_some_iff.1 hk).1 hne).trans hk

theorem below_keeps {B k : Nat} {w w' : World} {o : Obj} (h : Below B w w') (hk : w.heap[k]? = some o) (hlt : k < B) : w'.heap[k]? = some o := (h.block k hlt).trans hk

set_option maxHeartbeats 2000000 in
theorem freshHead_any (h : Hd) (vo : Value) (w : World) (hv : SeesB w vo h.opts) (hl : h.opts.length ≤ 1099511627776) :
    Calls Try.prog 62 #[.agg (hdCells h vo)] w fun e w' => ∃ v', e = .returned (.agg (hdCells h v')) ∧ OwnB w' (w.heap.size + 2) v' h.opts ∧ Below w.heap.size w w' := by
  obtain ⟨w1, hw1⟩ : ∃ w1, w1 = (w.alloc (.cells (hdCells h vo) 27)).alloc (.cells Z27 27) := ⟨_, rfl⟩
  have hs1 : w1.heap.size = w.heap.size + 2 := by rw [hw1]; simp
  have hb1 : Below w.heap.size w w1 := by rw [hw1]; exact ((Below.refl _ _).alloc (Nat.le_refl _) _).alloc (by simp) _
  have hk0 : w1.heap[w.heap.size]? = some (.cells (hdCells h vo) 27) := by
    have h1 : Below (w.heap.size + 1) (w.alloc (.cells (hdCells h vo) 27)) w1 := by rw [hw1]; exact (Below.refl _ _).alloc (by simp) _
    rw [h1.block _ (by omega)]
    exact heap_alloc_new w _
  have hk1 : w1.heap[w.heap.size + 1]? = some (.cells Z27 27) := by
    have := heap_alloc_new (w.alloc (.cells (hdCells h vo) 27)) (.cells Z27 27)
    rw [World.size_alloc] at this
    rw [hw1]; exact this
  have HF := hid (freshBytes_any vo h.opts w1 (hv.below hb1) hl)
  have c9 : w1.cell? ⟨w.heap.size, 9, none⟩ = some vo := by rw [cell_of_row _ _ _ _ _ _ hk0]; rfl
  obtain ⟨ao, n, cap, rfl, HN, hn1, hn2⟩ := hv.shape
  have HW1 := hid hw1
  have HB1 := hid hb1
  have HK0 := hid hk0
  have HK1 := hid hk1
  have HS1 := hid hs1
  clear hw1 hb1 hk0 hk1 hv hl hs1
  obtain ⟨cs, hcs⟩ : ∃ cs, cs = hdCells h (.slice ao n cap) := ⟨_, rfl⟩
  rw [← hcs] at HW1 HK0 ⊢
  have HCS := hid hcs
  clear hcs
  go_enter Try.func62, Try.ntmps62
  go_upto_region 1 with fail
  have e0 : (w.alloc (.cells cs 27)).alloc (.cells Z27 27) = w1 := HW1.out.symm
  unfold Z27 at e0
  rw [e0]
  clear e0
  go_wp2_with fail
  refine HF.out.mono ?_
  rintro _ w2 ⟨v', rfl, ho, hb2⟩
  obtain ⟨a2, c2, rfl⟩ := ho.shape
  have HO := hid ho
  have HB2 := hid hb2
  clear ho hb2 c9
  have hk2 := below_keeps HB2.out HK0.out (by have := HS1.out; omega)
  have HK2 := hid hk2
  rw [HCS.out] at HK2
  go_wp2_with (first | (refine wpList_st1 rfl 22 (.tmp 6) (.tmp 5) rfl w.heap.size 9 (.slice a2 h.opts.length c2) rfl rfl rfl 27 _ (hdCells h (.slice a2 h.opts.length c2)) HK2.out size22 (by show 9 < 10; decide) rfl ?_) | fail)
  intro w3 hk3 hbut3
  have HL3 := hid (hd_load hk3)
  have HK3 := hid hk3
  have HU3 := hid hbut3
  clear hk2 hk3 hbut3
  have HK4 : Hid (w3.heap[w.heap.size + 1]? = some (.cells Z27 27)) := HU3.out.keeps (below_keeps HB2.out HK1.out (by have := HS1.out; omega)) (by omega)
  obtain ⟨cr, hcr⟩ : ∃ cr, cr = hdCells h (.slice a2 h.opts.length c2) := ⟨_, rfl⟩
  have HCR := hid hcr
  have HALL : Hid (cr.all (·.oneCell') = true) := by unfold Hid; rw [hcr]; exact all_hd _ _ _ _
  have HSZ : Hid (cr.size = 10) := by unfold Hid; rw [hcr]; rfl
  rw [← hcr] at HL3
  clear hcr
  go_wp2_with (first | (refine wpList_ld 27 ⟨w.heap.size, 0, none⟩ (.tmp 1) rfl rfl HL3.out rfl ?_) | (refine wpList_st rfl 27 (.tmp 2) (.tmp 7) rfl (w.heap.size + 1) cr rfl rfl 27 Z27 HK4.out (by rw [HSZ.out]; exact sz27) (by rw [HSZ.out]; rfl) HALL.out ?_) | fail)
  intro w5 hk5 hbut5
  rw [HCR.out] at hk5
  have HL5 := hid (hd_var hk5)
  go_wp2_with fail
  refine bodyPost_ret (v := .agg (hdCells h (.slice a2 h.opts.length c2))) (by simp [results, Try.results62, asAddr, HL5.out]) rfl ?_
  refine ⟨_, rfl, ?_, ?_⟩
  · have h1 := HO.out
    rw [HS1.out] at h1
    exact (h1.but HU3.out (by omega)).but hbut5 (by omega)
  · refine hbut5.below (HU3.out.below (HB1.out.trans (HB2.out.mono HB1.out.size)) ?_ (Nat.le_refl _)) ?_ (by omega)
    · have h1 := HB2.out.size; have h2 := HS1.out; omega
    · have h1 := HB2.out.size; have h2 := HS1.out; have h3 := HU3.out.size; omega
end Go.Proofs.Ytdoeebbcieiimaa
