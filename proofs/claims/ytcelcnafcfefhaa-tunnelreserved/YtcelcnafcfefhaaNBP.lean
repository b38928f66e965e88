import Derived.Test.YtcelcnafcfefhaaNZB
import Derived.Test.YtcelcnafcfefhaaNBD
namespace Go.Proofs.Ytcelcnafcfefhaa.N
open Go.ChangeShapes Go.WideShapes Go.ChangeAt Go.RowKit
set_option maxHeartbeats 1000000
set_option maxRecDepth 100000

set_option maxHeartbeats 1000000 in
theorem parse_new (v : Value) (L : List Nat) (w : World) (hv : SeesB w v L) (hl : L.length ≤ 140737488355328) (he : (exam L true).2.2 = 0) :
    Calls Try.prog 41 #[v] w fun e w' => ∃ vo vb, e = .returned (.tuple #[.agg (pkCells (parsed L).1 vo vb), .int .i64 (parsed L).2.2]) ∧ SeesB w' vo (parsed L).1.opts ∧ SeesB w' vb (parsed L).2.1 ∧ (∀ a n c, vo = .slice (some a) n c → w.heap.size < a.block) ∧ (∀ a n c, vb = .slice (some a) n c → w.heap.size < a.block) ∧ Below w.heap.size w w' := by
  have hp : parsed L = (rdH (L.take (exam L true).2.1) (exam L true).1, (L.take (exam L true).2.1).drop (exam L true).1, 0) := by unfold parsed; rw [if_pos he]
  obtain ⟨x1, x2, x3⟩ := exam_ok he
  obtain ⟨y1, y2, y3, y4, y5, y6, y7⟩ := lens_ok x1
  rw [← x3] at y1 y2 y3 y4 y5
  have y5 := y5 rfl
  rw [← x3] at y7
  have yl := w16_lt hv.bytes 2
  rw [← y7] at yl
  clear x1 x2 x3 y6 y7
  rw [hp]
  have hb1 : Below w.heap.size w (w.alloc (.cells #[.int .u8 0, .int .u16 0, .bool false, .bool false, .int .i64 0, .int .u8 0, .int .u8 0, .int .u32 0, .int .u32 0, .slice none 0 0, .slice none 0 0] 52)) := (Below.refl _ _).alloc (Nat.le_refl _) _
  have HX := hid (exam_code v L true _ (hv.below hb1) hl)
  obtain ⟨ao, n, cap, rfl, HN, hn1, hn2⟩ := hv.shape
  generalize exam L true = t at *
  obtain ⟨h, l, z⟩ := t
  simp only at *
  subst he
  obtain ⟨ah, HSH, hhigh⟩ := hv.high l (l : Int) rfl (by have := HN.out; omega)
  have HUP := hid (fun u (hu : Below w.heap.size w u) => unpack_any _ (L.take l) h u (HSH.out.below hu) y1 (by rw [List.length_take]; omega) (by rw [List.length_take]; omega))
  have HBK : Hid (∀ u, Below (w.heap.size + 1) (w.alloc (.cells #[.int .u8 0, .int .u16 0, .bool false, .bool false, .int .i64 0, .int .u8 0, .int .u8 0, .int .u32 0, .int .u32 0, .slice none 0 0, .slice none 0 0] 52)) u → u.heap[w.heap.size]? = some (.cells #[.int .u8 0, .int .u16 0, .bool false, .bool false, .int .i64 0, .int .u8 0, .int .u8 0, .int .u32 0, .int .u32 0, .slice none 0 0, .slice none 0 0] 52)) := fun u hu => by
    rw [hu.block w.heap.size (by omega)]
    exact heap_alloc_new w _
  have HB1 := hid hb1
  clear hp hv hb1 hl
  simp only [World.size_alloc] at HX
  generalize rdH (L.take l) h = H at *
  obtain ⟨tos, id, df, mf, off, ttl, proto, src, dst, opts⟩ := H
  unfold hdCells at HUP
  simp only at HUP
  go_enter Try.func41, Try.ntmps41
  go_wp2_with fail
  refine HX.out.mono ?_
  rintro _ w2 ⟨rfl, hb2⟩
  have hbw : Below w.heap.size w w2 := HB1.out.trans (hb2.mono (by omega))
  go_wp2_with fail
  refine (HUP.out _ hbw).mono ?_
  rintro _ w3 ⟨vo, vb, rfl, hso, hsb, hko, hkb, hb3⟩
  obtain ⟨a1, n1, c1, rfl, _, _, _⟩ := hso.shape
  obtain ⟨a2, n2, c2, rfl, _, _, _⟩ := hsb.shape
  have hb23 := hb2.trans (hb3.mono (by have := hb2.size; simp at this; omega))
  have hbA := hb23.alloc (by have := hb23.size; simp at this ⊢; omega) (.cells #[.int .u8 (tos : Int), .int .u16 (id : Int), .bool df, .bool mf, .int .i64 off, .int .u8 (ttl : Int), .int .u8 (proto : Int), .int .u32 (src : Int), .int .u32 (dst : Int), .slice a1 n1 c1] 50)
  have hz := HBK.out _ hbA
  have HTH : Hid ((w3.alloc (.cells #[.int .u8 (tos : Int), .int .u16 (id : Int), .bool df, .bool mf, .int .i64 off, .int .u8 (ttl : Int), .int .u8 (proto : Int), .int .u32 (src : Int), .int .u32 (dst : Int), .slice a1 n1 c1] 50)).there w.heap.size 0 11) := there_blk hz rfl
  have HONE : Hid ((#[.int .u8 (tos : Int), .int .u16 (id : Int), .bool df, .bool mf, .int .i64 off, .int .u8 (ttl : Int), .int .u8 (proto : Int), .int .u32 (src : Int), .int .u32 (dst : Int), .slice a1 n1 c1, .slice a2 n2 c2] : Array Value).all (·.oneCell') = true) := by unfold Hid; simp [Value.oneCell']
  have HINF : Hid ((Try.prog.info? 52).map (·.size) = some (#[.int .u8 (tos : Int), .int .u16 (id : Int), .bool df, .bool mf, .int .i64 off, .int .u8 (ttl : Int), .int .u8 (proto : Int), .int .u32 (src : Int), .int .u32 (dst : Int), .slice a1 n1 c1, .slice a2 n2 c2] : Array Value).size) := size29
  obtain ⟨zz, hzz⟩ : ∃ zz : Array Value, zz = #[.int .u8 (tos : Int), .int .u16 (id : Int), .bool df, .bool mf, .int .i64 off, .int .u8 (ttl : Int), .int .u8 (proto : Int), .int .u32 (src : Int), .int .u32 (dst : Int), .slice a1 n1 c1, .slice a2 n2 c2] := ⟨_, rfl⟩
  have HZZ := hid hzz
  have HTZ : Hid ((w3.alloc (.cells #[.int .u8 (tos : Int), .int .u16 (id : Int), .bool df, .bool mf, .int .i64 off, .int .u8 (ttl : Int), .int .u8 (proto : Int), .int .u32 (src : Int), .int .u32 (dst : Int), .slice a1 n1 c1] 50)).there w.heap.size 0 zz.size) := by rw [hzz]; exact HTH.out
  rw [← hzz] at HONE HINF
  have hlt2 : w.heap.size < w2.heap.size := by have := hb2.size; simp at this; omega
  have HSO : Hid (SeesB ((w3.alloc (.cells #[.int .u8 (tos : Int), .int .u16 (id : Int), .bool df, .bool mf, .int .i64 off, .int .u8 (ttl : Int), .int .u8 (proto : Int), .int .u32 (src : Int), .int .u32 (dst : Int), .slice a1 n1 c1] 50)).setCells w.heap.size 0 zz.toList) (.slice a1 n1 c1) opts) := sees_set' (hso.below ((Below.refl _ _).alloc (Nat.le_refl _) _)) (fun a ha => by have := hko a n1 c1 (by rw [ha]); omega)
  have HSB : Hid (SeesB ((w3.alloc (.cells #[.int .u8 (tos : Int), .int .u16 (id : Int), .bool df, .bool mf, .int .i64 off, .int .u8 (ttl : Int), .int .u8 (proto : Int), .int .u32 (src : Int), .int .u32 (dst : Int), .slice a1 n1 c1] 50)).setCells w.heap.size 0 zz.toList) (.slice a2 n2 c2) ((L.take l).drop h)) := sees_set' (hsb.below ((Below.refl _ _).alloc (Nat.le_refl _) _)) (fun a ha => by have := hkb a n2 c2 (by rw [ha]); omega)
  have HBF : Hid (Below w.heap.size w ((w3.alloc (.cells #[.int .u8 (tos : Int), .int .u16 (id : Int), .bool df, .bool mf, .int .i64 off, .int .u8 (ttl : Int), .int .u8 (proto : Int), .int .u32 (src : Int), .int .u32 (dst : Int), .slice a1 n1 c1] 50)).setCells w.heap.size 0 zz.toList)) := below_setCells' (Nat.le_refl _) _ _ _ (HB1.out.trans (hbA.mono (by omega)))
  obtain ⟨fs, hu29⟩ := und29
  have HLV : Hid ((loadVar 52 ⟨w.heap.size, 0, none⟩).run Try.prog ((w3.alloc (.cells #[.int .u8 (tos : Int), .int .u16 (id : Int), .bool df, .bool mf, .int .i64 off, .int .u8 (ttl : Int), .int .u8 (proto : Int), .int .u32 (src : Int), .int .u32 (dst : Int), .slice a1 n1 c1] 50)).setCells w.heap.size 0 zz.toList) = .ok (.agg zz) ((w3.alloc (.cells #[.int .u8 (tos : Int), .int .u16 (id : Int), .bool df, .bool mf, .int .i64 off, .int .u8 (ttl : Int), .int .u8 (proto : Int), .int .u32 (src : Int), .int .u32 (dst : Int), .slice a1 n1 c1] 50)).setCells w.heap.size 0 zz.toList)) := by
    have hrg := World.rangeAt_setCells_same (w3.alloc (.cells #[.int .u8 (tos : Int), .int .u16 (id : Int), .bool df, .bool mf, .int .i64 off, .int .u8 (ttl : Int), .int .u8 (proto : Int), .int .u32 (src : Int), .int .u32 (dst : Int), .slice a1 n1 c1] 50)) w.heap.size 0 zz.toList (by rw [Array.length_toList]; exact HTZ.out)
    exact run_loadVar_mid _ w.heap.size 0 52 zz.toList (.struct fs) hrg hu29 rfl (by rw [Array.length_toList]; exact HINF.out)
  have HKO : Hid (∀ a n c, Value.slice a1 n1 c1 = .slice (some a) n c → w.heap.size < a.block) := fun a n c e => by have := hko a n c e; omega
  have HKB : Hid (∀ a n c, Value.slice a2 n2 c2 = .slice (some a) n c → w.heap.size < a.block) := fun a n c e => by have := hkb a n c e; omega
  clear hzz hz hso hsb hb2 hb3 hb23 HX HUP hu29 hko hkb hlt2 hbA hbw
  go_wp2_with (first
    | (refine wpList_store_mid rfl 52 (.tmp 2) (.tmp 29) rfl w.heap.size 0 zz rfl (by rw [HZZ.out]; rfl) HTZ.out HINF.out HONE.out ?_)
    | fail)
  generalize (w3.alloc (.cells #[.int .u8 (tos : Int), .int .u16 (id : Int), .bool df, .bool mf, .int .i64 off, .int .u8 (ttl : Int), .int .u8 (proto : Int), .int .u32 (src : Int), .int .u32 (dst : Int), .slice a1 n1 c1] 50)).setCells w.heap.size 0 zz.toList = wf at HLV HBF HSO HSB ⊢
  refine bodyPost_ret (v := .tuple #[.agg zz, .int .i64 0]) (by simp [results, Try.results41, asAddr, HLV.out]) rfl ?_
  exact ⟨.slice a1 n1 c1, .slice a2 n2 c2, by rw [HZZ.out]; rfl, HSO.out, HSB.out, HKO.out, HKB.out, HBF.out⟩

set_option maxHeartbeats 1000000 in
/-- Build, done. -/
theorem build_new (h : Hd) (vo vb : Value) (B : List Nat) (w : World) (hok : h.Ok) (hvo : SeesB w vo h.opts) (hvb : SeesB w vb B) (he : refE h B.length = 0) :
    Calls Try.prog 15 #[.agg (pkCells h vo vb)] w fun e w' => ∃ g n, e = .returned (.tuple #[.slice (some ⟨g, 0, none⟩) n n, .int .i64 0]) ∧ Blk w' g (builtL h B) ∧ n = (builtL h B).length ∧ w.heap.size < g ∧ Below w.heap.size w w' := by
  obtain ⟨r1, r2, r3⟩ := refE_ok he
  obtain ⟨l1, l2⟩ := area_len r1
  obtain ⟨f, hf, hf1⟩ : ∃ f : Nat, h.off = (f : Int) ∧ f ≤ 65528 := by
    unfold M.pieceOk at r2
    simp at r2
    exact ⟨h.off.toNat, by omega, by omega⟩
  obtain ⟨w1, hw1⟩ : ∃ w1, w1 = w.alloc (.cells (pkCells h vo vb) 52) := ⟨_, rfl⟩
  have hb1 : Below w.heap.size w w1 := by rw [hw1]; exact (Below.refl _ _).alloc (Nat.le_refl _) _
  have hs1 : w1.heap.size = w.heap.size + 1 := by rw [hw1]; simp
  have HK : Hid (∀ u, Below w1.heap.size w1 u → u.heap[w.heap.size]? = some (.cells (pkCells h vo vb) 52)) := fun u hu => by
    rw [hu.block _ (by omega), hw1]; exact heap_alloc_new w _
  have hk1 := HK.out _ (Below.refl _ _)
  have HA0 := area_code vo h.opts w1 (hvo.below hb1)
  have HP0 := piece_code h.off B.length h.mf w1 hok.off (by omega)
  rw [r1] at HA0
  rw [r2] at HP0
  have HVO := hid hvo
  have HVB := hid hvb
  obtain ⟨ao, n, cap, rfl, HN, hn1, hn2⟩ := hvo.shape
  obtain ⟨ab, nb, capb, rfl, HNB, hnb1, hnb2⟩ := hvb.shape
  unfold maxLen at hn2 hnb2
  rw [← HNB.out] at HP0
  have HA := hid HA0
  have HP := hid HP0
  clear HA0 HP0
  have c3 : w1.cell? ⟨w.heap.size, 3, none⟩ = some (.bool h.mf) := pk_at hk1 3 (by omega)
  have c4 : w1.cell? ⟨w.heap.size, 4, none⟩ = some (.int .i64 h.off) := pk_at hk1 4 (by omega)
  have c9 : w1.cell? ⟨w.heap.size, 9, none⟩ = some (.slice ao n cap) := pk_at hk1 9 (by omega)
  have c10 : w1.cell? ⟨w.heap.size, 10, none⟩ = some (.slice ab nb capb) := pk_at hk1 10 (by omega)
  have hn40 : n ≤ 40 := by have := HN.out; omega
  have htot : 20 + n + nb ≤ 65535 := by have := HN.out; have := HNB.out; omega
  obtain ⟨tot, ht⟩ : ∃ tot, tot = 20 + n + nb := ⟨_, rfl⟩
  have hmk := make_bytes tot (by omega)
  obtain ⟨w2, hw2⟩ : ∃ w2, w2 = w1.alloc (.cells (madeCells #[.int .u8 0] tot) 5) := ⟨_, rfl⟩
  have hB2 : Blk w2 w1.heap.size (z20 ++ List.replicate (n + nb) 0) := by
    have := made_blk w1 tot
    rw [← hw2, ht, show 20 + n + nb = 20 + (n + nb) by omega, ← List.replicate_append_replicate] at this
    exact this
  have hb2 : Below w1.heap.size w1 w2 := by rw [hw2]; exact (Below.refl _ _).alloc (Nat.le_refl _) _
  have hbw2 : Below w.heap.size w w2 := hb1.trans (hb2.mono hb1.size)
  have HLAY := hid (layHead_any h (.slice ao n cap) w1.heap.size tot f (List.replicate (n + nb) 0) w2 hok hB2 (by rw [List.length_append, List.length_replicate, ht]; show 20 + _ = _; omega) (by omega) hf hf1 (HVO.out.below hbw2) l1 l2)
  have HL2 := hid (pk_loadH (HK.out _ hb2))
  obtain ⟨a20, HA20, k20⟩ := cut_end w1.heap.size tot 20 20 rfl (by omega)
  obtain ⟨aS, HAS, kS⟩ := cut_end w1.heap.size tot (20 + n) (20 + (n : Int)) (by omega) (by omega)
  have kH : ∀ u : World, (Instr.sliceAt 25 (.slice (some ⟨w1.heap.size, 0, none⟩) tot tot) none (some (.int .i64 (20 + (n : Int)))) none).run Try.prog u = .ok (.slice (some ⟨w1.heap.size, 0, none⟩) (20 + n) tot) u := fun u => by
    have hu : Try.prog.underlying 25 = some (.slice (Try.prog.elem 25)) := by kernel_rfl
    have hsz : (sizeOf (Try.prog.elem 25)).run Try.prog u = .ok 1 u := by kernel_rfl
    rw [run_sliceAt_slice (h := hu), run_slice_h (ht := hu) (h0 := by omega) (h2 := by omega), hsz]
    simp [Result.andThen, sliced, Addr.add]
    omega
  have HOB : Hid (∀ x ∈ h.opts, x < 256) := HVO.out.bytes
  have HBB : Hid (∀ x ∈ B, x < 256) := HVB.out.bytes
  have H20B := hid (bytes_hd20 hok (len := tot) (by omega) hf hf1 l1 HOB.out)
  have HSEAL : Hid (∀ u, Blk u w1.heap.size (hd20 h tot 0 ++ (h.opts ++ B)) → Calls Try.prog 40 #[.slice (some ⟨w1.heap.size, 0, none⟩) (20 + n) tot] u fun e w' => e = .returned (.tuple #[]) ∧ Hid (Blk w' w1.heap.size (builtL h B)) ∧ But w1.heap.size u w') := fun u hu => by
    have hlen : (hd20 h tot 0 ++ (h.opts ++ B)).length = tot := by
      rw [List.length_append, List.length_append, ht, HN.out, HNB.out]; show 20 + _ = _; omega
    have := seal_any w1.heap.size (20 + n) tot (hd20 h tot 0 ++ (h.opts ++ B)) u hu (fun x hx => by
      rcases List.mem_append.1 hx with hx | hx
      · exact H20B.out x hx
      · rcases List.mem_append.1 hx with hx | hx
        · exact HOB.out x hx
        · exact HBB.out x hx) (by omega) (by omega) (by omega) (by omega)
    refine this.mono ?_
    rintro e w' ⟨rfl, hB, hu'⟩
    refine ⟨rfl, ?_, hu'⟩
    rw [sealed h B tot n HN.out (by unfold lenOfPk; rw [ht, HN.out, HNB.out]) he] at hB
    exact hB
  have HEZ := hid he
  have HBX : Hid (∀ x ∈ builtL h B, x < 256) := by
    unfold Hid builtL
    rw [if_pos he]
    intro x hx
    rcases List.mem_append.1 hx with hx | hx
    · exact hdBytes_ok hok HOB.out l1 hf hf1 (by unfold lenOfPk; omega) (M.csum_lt _) x hx
    · exact HBB.out x hx
  have HS1 : Hid (w.heap.size < w1.heap.size) := by unfold Hid; omega
  have HW1 := hid hw1
  have HW2 := hid hw2
  have HB1 := hid hb1
  have HBW : Hid (∀ u, Below w1.heap.size w1 u → Below w.heap.size w u) := fun u hu => HB1.out.trans (hu.mono HB1.out.size)
  have HCC : Hid (∀ u, Below w1.heap.size w1 u → u.cell? ⟨w.heap.size, 9, none⟩ = some (.slice ao n cap) ∧ u.cell? ⟨w.heap.size, 10, none⟩ = some (.slice ab nb capb)) := fun u hu => ⟨pk_at (HK.out u hu) 9 (by omega), pk_at (HK.out u hu) 10 (by omega)⟩
  have HTT := hid ht
  have hS20 : (20 : Int) + (n : Int) ≤ (tot : Int) := by omega
  have htot' : tot ≤ 65535 := by omega
  have htn : 20 + n ≤ tot := by omega
  have HET : Hid ((20 : Int) + (n : Int) + (nb : Int) = (tot : Int)) := by unfold Hid; omega
  have HB2 := hid hb2
  clear hw1 hw2 hvo hvb hk1 hb1 hbw2 r1 r2 r3 he hf ht hs1
  generalize pkCells h (.slice ao n cap) (.slice ab nb capb) = pk at *
  generalize hdCells h (.slice ao n cap) = hc at *
  go_enter Try.func15, Try.ntmps15
  go_upto_region 1 with fail
  rw [← HW1.out]
  go_wp2_with fail
  refine HA.out.mono ?_
  rintro _ _ ⟨rfl, e⟩
  obtain rfl := e.symm
  go_wp2_with fail
  refine HP.out.mono ?_
  rintro _ _ ⟨rfl, e⟩
  obtain rfl := e.symm
  go_upto_region 9 with fail
  simp only [HET.out]
  go_upto_region 10 with fail
  rw [← HW2.out]
  go_wp2_with (first | (refine wpList_ld 50 ⟨w.heap.size, 0, none⟩ (.tmp 41) rfl rfl HL2.out rfl ?_) | fail)
  refine HLAY.out.mono ?_
  rintro _ w3 ⟨rfl, hB3, hu3⟩
  have hb3 : Below w1.heap.size w1 w3 := hu3.below HB2.out HB2.out.size (Nat.le_refl _)
  obtain ⟨d9, d10⟩ := HCC.out _ hb3
  have HG3 : Hid (w3.heap[w1.heap.size]? = some (.cells (bs (hd20 h tot 0 ++ List.replicate (n + nb) 0)).toArray 5 (0, 0))) := hB3
  obtain ⟨X3, hX3⟩ : ∃ X3, X3 = bs (hd20 h tot 0 ++ List.replicate (n + nb) 0) := ⟨_, rfl⟩
  obtain ⟨O3, hO3⟩ : ∃ O3, O3 = bs h.opts := ⟨_, rfl⟩
  have HO3 := hid hO3
  have HX3 := hid hX3
  have HLO : Hid (O3.length = n) := by unfold Hid; rw [hO3, bs, List.length_map, HN.out]
  have HLX : Hid (X3.length = tot) := by unfold Hid; rw [hX3, bs, List.length_map, List.length_append, len20, List.length_replicate]; have := HTT.out; omega
  rw [← hX3] at HG3
  clear hX3 hO3 HLAY HA HP c3 c4 c9 c10 hu3 hB3 hmk HL2 HW2
  have HMN : Hid (O3.length = Nat.min n (tot - 20)) := by unfold Hid; rw [HLO.out]; have := HTT.out; show n = min n (tot - 20); omega
  have HPS : Hid (0 < O3.length → a20 = some ⟨w1.heap.size, 20, none⟩ ∧ ∃ ad, ao = some ad ∧ ∀ j v, O3[j]? = some v → w3.drew.cell? (ad.add j) = some v) := fun hp => by
    refine ⟨HA20.out (by have := HLO.out; have := HTT.out; omega), ?_⟩
    rw [HO3.out] at hp ⊢
    exact (HVO.out.below (HBW.out _ (below_drew hb3))).src hp
  have HFT : Hid (20 + O3.length ≤ X3.length) := by unfold Hid; rw [HLO.out, HLX.out]; have := HTT.out; omega
  have HO1 : Hid (∀ v ∈ O3, v.oneCell' = true) := fun v hv => by
    rw [HO3.out] at hv
    obtain ⟨y, _, rfl⟩ := List.mem_map.1 hv
    rfl
  have HBD3 := hid (below_drew hb3)
  go_upto_region 11 with fail
  go_cut [] from 44 (fun wx => Hid (wx.heap[w1.heap.size]? = some (.cells (splice X3 20 O3).toArray 5 (0, 0))) ∧ Below w1.heap.size w1 wx)
  case first =>
    go_region_law (first
      | (refine step_copy_splice rfl (.tmp 45) (.tmp 48) 25 25 rfl 5 Try.underlying25 size5 a20 ao (tot - 20) (tot - 20) n cap rfl rfl w1.heap.size 20 X3 5 HG3.out O3 HMN.out HPS.out HFT.out HO1.out w1.heap.size w1 HBD3.out (Nat.le_refl _) ?_; intro w4 hg4 hb4)
      | fail)
    all_goals (
      go_wp2_with fail
      go_meet
      case rel => exact ⟨hg4, hb4⟩)
  case rest =>
  obtain ⟨HG4, hb4⟩ := hcut
  obtain ⟨w4, hw4⟩ : ∃ w4, w4 = wc := ⟨_, rfl⟩
  rw [← hw4] at HG4 hb4 ⊢
  clear hw4 d9 d10 HMN HPS HFT HO1 HBD3 hb3 HG3 k20
  obtain ⟨e9, e10⟩ := HCC.out _ hb4
  obtain ⟨X4, hX4⟩ : ∃ X4, X4 = splice X3 20 O3 := ⟨_, rfl⟩
  obtain ⟨O4, hO4⟩ : ∃ O4, O4 = bs B := ⟨_, rfl⟩
  rw [← hX4] at HG4
  have HX4 := hid hX4
  have HO4 := hid hO4
  have HLO4 : Hid (O4.length = nb) := by unfold Hid; rw [hO4, bs, List.length_map, HNB.out]
  have HLX4 : Hid (X4.length = tot) := by unfold Hid; rw [hX4, length_splice _ _ _ (by rw [HLO.out, HLX.out]; have := HTT.out; omega), HLX.out]
  have HMN : Hid (O4.length = Nat.min nb (tot - (20 + n))) := by unfold Hid; rw [HLO4.out]; have := HTT.out; show nb = min nb (tot - (20 + n)); omega
  have HPS : Hid (0 < O4.length → aS = some ⟨w1.heap.size, 20 + n, none⟩ ∧ ∃ ad, ab = some ad ∧ ∀ j v, O4[j]? = some v → w4.drew.cell? (ad.add j) = some v) := fun hp => by
    refine ⟨HAS.out (by have := HLO4.out; have := HTT.out; omega), ?_⟩
    rw [HO4.out] at hp ⊢
    exact (HVB.out.below (HBW.out _ (below_drew hb4))).src hp
  have HFT : Hid (20 + n + O4.length ≤ X4.length) := by unfold Hid; rw [HLO4.out, HLX4.out]; have := HTT.out; omega
  have HO1 : Hid (∀ v ∈ O4, v.oneCell' = true) := fun v hv => by
    rw [HO4.out] at hv
    obtain ⟨y, _, rfl⟩ := List.mem_map.1 hv
    rfl
  have HBD4 := hid (below_drew hb4)
  clear hX4 hO4
  go_upto_region 12 with fail
  go_cut [] from 50 (fun wx => Hid (wx.heap[w1.heap.size]? = some (.cells (splice X4 (20 + n) O4).toArray 5 (0, 0))) ∧ Below w1.heap.size w1 wx)
  case first =>
    go_region_law (first
      | (refine step_copy_splice rfl (.tmp 52) (.tmp 54) 25 25 rfl 5 Try.underlying25 size5 aS ab (tot - (20 + n)) (tot - (20 + n)) nb capb rfl rfl w1.heap.size (20 + n) X4 5 HG4.out O4 HMN.out HPS.out HFT.out HO1.out w1.heap.size w1 HBD4.out (Nat.le_refl _) ?_; intro w5 hg5 hb5)
      | fail)
    all_goals (
      go_wp2_with fail
      go_meet
      case rel => exact ⟨hg5, hb5⟩)
  case rest =>
  obtain ⟨HG5, hb5⟩ := hcut
  obtain ⟨w5, hw5⟩ : ∃ w5, w5 = wc := ⟨_, rfl⟩
  rw [← hw5] at HG5 hb5 ⊢
  clear hw5 e9 e10 HMN HPS HFT HO1 HBD4 HG4 kS
  have hB5 : Blk w5 w1.heap.size (hd20 h tot 0 ++ (h.opts ++ B)) := by
    have e1 : splice X3 20 O3 = bs (hd20 h tot 0 ++ (h.opts ++ List.replicate nb 0)) := by
      rw [HX3.out, HO3.out, bs_splice, splice_head (len20 _ _ _).symm, List.drop_replicate, ← HN.out, show n + nb - n = nb by omega]
    have e2 : splice X4 (20 + n) O4 = bs (hd20 h tot 0 ++ (h.opts ++ B)) := by
      rw [HX4.out, e1, HO4.out, bs_splice, ← List.append_assoc, splice_head (by rw [List.length_append, len20, HN.out]), List.drop_replicate, ← HNB.out, Nat.sub_self]
      simp
    have := HG5.out
    rw [e2] at this
    exact this
  have HSL := hid (HSEAL.out _ hB5)
  clear hB5 HSEAL HG5
  go_wp2_with fail
  refine HSL.out.mono ?_
  rintro _ w6 ⟨rfl, hB6, hu6⟩
  have hb6 : Below w1.heap.size w1 w6 := hu6.below hb5 hb5.size (Nat.le_refl _)
  go_wp2_with fail
  refine bodyPost_ret (results_tmp2 Try.results15 _ _ _) rfl ?_
  refine ⟨w1.heap.size, tot, rfl, hB6.out, ?_, HS1.out, HBW.out _ hb6⟩
  have e : (bs (builtL h B)).length = tot := by
    unfold builtL
    rw [if_pos HEZ.out, bs, List.length_map, List.length_append, hdBytes_len, HTT.out, HN.out, HNB.out]
  rw [← e, bs, List.length_map]
end Go.Proofs.Ytcelcnafcfefhaa.N
