import Derived.Test.YtcelcnafcfefhaaNZ
namespace Go.Proofs.Ytcelcnafcfefhaa.N
open Go.ChangeShapes Go.WideShapes Go.ChangeAt Go.RowKit
set_option maxHeartbeats 400000
set_option maxRecDepth 100000

theorem sees_set' {w : World} {ao : Option Addr} {n cap b : Nat} {L : List Nat} {vs : List Value} (h : SeesB w (.slice ao n cap) L) (hne : ∀ a, ao = some a → a.block ≠ b) : SeesB (w.setCells b 0 vs) (.slice ao n cap) L := by
  obtain ⟨ao', cap', hv, h1, h2, h3⟩ := h
  simp at hv
  obtain ⟨rfl, hn, rfl⟩ := hv
  refine ⟨ao, cap, by rw [hn], h1, h2, fun j hj => ?_⟩
  obtain ⟨g, off, ha, hg, hc, hb⟩ := h3 j hj
  have hg' := hne _ ha
  have e := World.cell?_setCells_out b vs 0 w ⟨g, off + j, none⟩ (fun hb _ => absurd hb hg')
  exact ⟨g, off, ha, World.block_lt_of_cell? (w.setCells b 0 vs) ⟨g, off + j, none⟩ (e.trans hc), e.trans hc, hb⟩

set_option maxHeartbeats 1000000 in
theorem parse_good (v : Value) (L : List Nat) (w : World) (hv : SeesB w v L) (hl : L.length ≤ 140737488355328) (he : (exam L true).2.2 = 0) :
    Calls Try.prog 41 #[v] w fun e w' => ∃ vo vb, e = .returned (.tuple #[.agg (pkCells (parsed L).1 vo vb), .int .i64 (parsed L).2.2]) ∧ SeesB w' vo (parsed L).1.opts ∧ SeesB w' vb (parsed L).2.1 ∧ Below w.heap.size w w' := by
  have hp : parsed L = (rdH (L.take (exam L true).2.1) (exam L true).1, (L.take (exam L true).2.1).drop (exam L true).1, 0) := by unfold parsed; rw [if_pos he]
  obtain ⟨x1, x2, x3⟩ := exam_ok he
  obtain ⟨y1, y2, y3, y4, y5, y6, y7⟩ := lens_ok x1
  rw [← x3] at y1 y2 y3 y4 y5
  have y5 := y5 rfl
  rw [← x3] at y7
  have yl := w16_lt hv.bytes 2
  rw [← y7] at yl
  clear x1 x2 x3 y6 y7
  rw [hp]
  have hb1 : Below w.heap.size w (w.alloc (.cells #[.int .u8 0, .int .u16 0, .bool false, .bool false, .int .i64 0, .int .u8 0, .int .u8 0, .int .u32 0, .int .u32 0, .slice none 0 0, .slice none 0 0] 52)) := (Below.refl _ _).alloc (Nat.le_refl _) _
  have HX := hid (exam_code v L true _ (hv.below hb1) hl)
  obtain ⟨ao, n, cap, rfl, HN, hn1, hn2⟩ := hv.shape
  generalize exam L true = t at *
  obtain ⟨h, l, z⟩ := t
  simp only at *
  subst he
  obtain ⟨ah, HSH, hhigh⟩ := hv.high l (l : Int) rfl (by have := HN.out; omega)
  have HUP := hid (fun u (hu : Below w.heap.size w u) => unpack_any _ (L.take l) h u (HSH.out.below hu) y1 (by rw [List.length_take]; omega) (by rw [List.length_take]; omega))
  have HBK : Hid (∀ u, Below (w.heap.size + 1) (w.alloc (.cells #[.int .u8 0, .int .u16 0, .bool false, .bool false, .int .i64 0, .int .u8 0, .int .u8 0, .int .u32 0, .int .u32 0, .slice none 0 0, .slice none 0 0] 52)) u → u.heap[w.heap.size]? = some (.cells #[.int .u8 0, .int .u16 0, .bool false, .bool false, .int .i64 0, .int .u8 0, .int .u8 0, .int .u32 0, .int .u32 0, .slice none 0 0, .slice none 0 0] 52)) := fun u hu => by
    rw [hu.block w.heap.size (by omega)]
    exact heap_alloc_new w _
  have HB1 := hid hb1
  clear hp hv hb1 hl
  simp only [World.size_alloc] at HX
  generalize rdH (L.take l) h = H at *
  obtain ⟨tos, id, df, mf, off, ttl, proto, src, dst, opts⟩ := H
  unfold hdCells at HUP
  simp only at HUP
  go_enter Try.func41, Try.ntmps41
  go_wp2_with fail
  refine HX.out.mono ?_
  rintro _ w2 ⟨rfl, hb2⟩
  have hbw : Below w.heap.size w w2 := HB1.out.trans (hb2.mono (by omega))
  go_wp2_with fail
  refine (HUP.out _ hbw).mono ?_
  rintro _ w3 ⟨vo, vb, rfl, hso, hsb, hko, hkb, hb3⟩
  obtain ⟨a1, n1, c1, rfl, _, _, _⟩ := hso.shape
  obtain ⟨a2, n2, c2, rfl, _, _, _⟩ := hsb.shape
  have hb23 := hb2.trans (hb3.mono (by have := hb2.size; simp at this; omega))
  have hbA := hb23.alloc (by have := hb23.size; simp at this ⊢; omega) (.cells #[.int .u8 (tos : Int), .int .u16 (id : Int), .bool df, .bool mf, .int .i64 off, .int .u8 (ttl : Int), .int .u8 (proto : Int), .int .u32 (src : Int), .int .u32 (dst : Int), .slice a1 n1 c1] 50)
  have hz := HBK.out _ hbA
  have HTH : Hid ((w3.alloc (.cells #[.int .u8 (tos : Int), .int .u16 (id : Int), .bool df, .bool mf, .int .i64 off, .int .u8 (ttl : Int), .int .u8 (proto : Int), .int .u32 (src : Int), .int .u32 (dst : Int), .slice a1 n1 c1] 50)).there w.heap.size 0 11) := there_blk hz rfl
  have HONE : Hid ((#[.int .u8 (tos : Int), .int .u16 (id : Int), .bool df, .bool mf, .int .i64 off, .int .u8 (ttl : Int), .int .u8 (proto : Int), .int .u32 (src : Int), .int .u32 (dst : Int), .slice a1 n1 c1, .slice a2 n2 c2] : Array Value).all (·.oneCell') = true) := by unfold Hid; simp [Value.oneCell']
  have HINF : Hid ((Try.prog.info? 52).map (·.size) = some (#[.int .u8 (tos : Int), .int .u16 (id : Int), .bool df, .bool mf, .int .i64 off, .int .u8 (ttl : Int), .int .u8 (proto : Int), .int .u32 (src : Int), .int .u32 (dst : Int), .slice a1 n1 c1, .slice a2 n2 c2] : Array Value).size) := size29
  obtain ⟨zz, hzz⟩ : ∃ zz : Array Value, zz = #[.int .u8 (tos : Int), .int .u16 (id : Int), .bool df, .bool mf, .int .i64 off, .int .u8 (ttl : Int), .int .u8 (proto : Int), .int .u32 (src : Int), .int .u32 (dst : Int), .slice a1 n1 c1, .slice a2 n2 c2] := ⟨_, rfl⟩
  have HZZ := hid hzz
  have HTZ : Hid ((w3.alloc (.cells #[.int .u8 (tos : Int), .int .u16 (id : Int), .bool df, .bool mf, .int .i64 off, .int .u8 (ttl : Int), .int .u8 (proto : Int), .int .u32 (src : Int), .int .u32 (dst : Int), .slice a1 n1 c1] 50)).there w.heap.size 0 zz.size) := by rw [hzz]; exact HTH.out
  rw [← hzz] at HONE HINF
  have hlt2 : w.heap.size < w2.heap.size := by have := hb2.size; simp at this; omega
  have HSO : Hid (SeesB ((w3.alloc (.cells #[.int .u8 (tos : Int), .int .u16 (id : Int), .bool df, .bool mf, .int .i64 off, .int .u8 (ttl : Int), .int .u8 (proto : Int), .int .u32 (src : Int), .int .u32 (dst : Int), .slice a1 n1 c1] 50)).setCells w.heap.size 0 zz.toList) (.slice a1 n1 c1) opts) := sees_set' (hso.below ((Below.refl _ _).alloc (Nat.le_refl _) _)) (fun a ha => by have := hko a n1 c1 (by rw [ha]); omega)
  have HSB : Hid (SeesB ((w3.alloc (.cells #[.int .u8 (tos : Int), .int .u16 (id : Int), .bool df, .bool mf, .int .i64 off, .int .u8 (ttl : Int), .int .u8 (proto : Int), .int .u32 (src : Int), .int .u32 (dst : Int), .slice a1 n1 c1] 50)).setCells w.heap.size 0 zz.toList) (.slice a2 n2 c2) ((L.take l).drop h)) := sees_set' (hsb.below ((Below.refl _ _).alloc (Nat.le_refl _) _)) (fun a ha => by have := hkb a n2 c2 (by rw [ha]); omega)
  have HBF : Hid (Below w.heap.size w ((w3.alloc (.cells #[.int .u8 (tos : Int), .int .u16 (id : Int), .bool df, .bool mf, .int .i64 off, .int .u8 (ttl : Int), .int .u8 (proto : Int), .int .u32 (src : Int), .int .u32 (dst : Int), .slice a1 n1 c1] 50)).setCells w.heap.size 0 zz.toList)) := below_setCells' (Nat.le_refl _) _ _ _ (HB1.out.trans (hbA.mono (by omega)))
  obtain ⟨fs, hu29⟩ := und29
  have HLV : Hid ((loadVar 52 ⟨w.heap.size, 0, none⟩).run Try.prog ((w3.alloc (.cells #[.int .u8 (tos : Int), .int .u16 (id : Int), .bool df, .bool mf, .int .i64 off, .int .u8 (ttl : Int), .int .u8 (proto : Int), .int .u32 (src : Int), .int .u32 (dst : Int), .slice a1 n1 c1] 50)).setCells w.heap.size 0 zz.toList) = .ok (.agg zz) ((w3.alloc (.cells #[.int .u8 (tos : Int), .int .u16 (id : Int), .bool df, .bool mf, .int .i64 off, .int .u8 (ttl : Int), .int .u8 (proto : Int), .int .u32 (src : Int), .int .u32 (dst : Int), .slice a1 n1 c1] 50)).setCells w.heap.size 0 zz.toList)) := by
    have hrg := World.rangeAt_setCells_same (w3.alloc (.cells #[.int .u8 (tos : Int), .int .u16 (id : Int), .bool df, .bool mf, .int .i64 off, .int .u8 (ttl : Int), .int .u8 (proto : Int), .int .u32 (src : Int), .int .u32 (dst : Int), .slice a1 n1 c1] 50)) w.heap.size 0 zz.toList (by rw [Array.length_toList]; exact HTZ.out)
    exact run_loadVar_mid _ w.heap.size 0 52 zz.toList (.struct fs) hrg hu29 rfl (by rw [Array.length_toList]; exact HINF.out)
  clear hzz hz hso hsb hb2 hb3 hb23 HX HUP hu29 hko hkb hlt2 hbA hbw
  go_wp2_with (first
    | (refine wpList_store_mid rfl 52 (.tmp 2) (.tmp 29) rfl w.heap.size 0 zz rfl (by rw [HZZ.out]; rfl) HTZ.out HINF.out HONE.out ?_)
    | fail)
  generalize (w3.alloc (.cells #[.int .u8 (tos : Int), .int .u16 (id : Int), .bool df, .bool mf, .int .i64 off, .int .u8 (ttl : Int), .int .u8 (proto : Int), .int .u32 (src : Int), .int .u32 (dst : Int), .slice a1 n1 c1] 50)).setCells w.heap.size 0 zz.toList = wf at HLV HBF HSO HSB ⊢
  refine bodyPost_ret (v := .tuple #[.agg zz, .int .i64 0]) (by simp [results, Try.results41, asAddr, HLV.out]) rfl ?_
  exact ⟨.slice a1 n1 c1, .slice a2 n2 c2, by rw [HZZ.out]; rfl, HSO.out, HSB.out, HBF.out⟩
end Go.Proofs.Ytcelcnafcfefhaa.N
