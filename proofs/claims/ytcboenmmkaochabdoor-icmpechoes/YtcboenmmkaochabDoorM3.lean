import Derived.Test.YtcboenmmkaochabDoorM2
import Derived.Laws.CopyOwn
import Derived.Laws.OwnMore
import Derived.StillTail
import Derived.Shelf.Abstract
namespace Go.Proofs.YtcboenmmkaochabDoor.N
open Go.ChangeShapes Go.WideShapes Go.ChangeAt Go.RowKit
set_option maxHeartbeats 1000000
set_option maxRecDepth 100000

theorem made_blk (u : World) (k : Nat) : Blk (u.alloc (.cells (madeCells #[.int .u8 0] k) 5)) u.heap.size (List.replicate k 0) := by
  unfold Blk
  rw [heap_alloc_new u _]
  have e : madeCells #[.int .u8 0] k = (bs (List.replicate k 0)).toArray := by
    rw [← Array.toArray_toList (xs := madeCells #[.int .u8 0] k), toList_madeCells_one]
    simp [bs]
  rw [e]

theorem bs_splice (X Y : List Nat) (o : Nat) : splice (bs X) o (bs Y) = bs (splice X o Y) := by
  unfold splice bs
  simp [List.map_take, List.map_drop]

theorem splice_head {A R Y : List Nat} {o : Nat} (ho : o = A.length) : splice (A ++ R) o Y = A ++ (Y ++ R.drop Y.length) := by
  subst ho
  unfold splice
  rw [List.take_left', List.drop_append]
  · simp
  · rfl

/-- A cut 'b[m:]' of a whole block: where nothing is left its place is not told. -/
theorem cut_end (g k m : Nat) (i : Int) (hi : i = m) (hm : m ≤ k) : ∃ ao, Hid (m < k → ao = some ⟨g, m, none⟩) ∧ ∀ u : World, (Instr.sliceAt 26 (.slice (some ⟨g, 0, none⟩) k k) (some (.int .i64 i)) none none).run Tryd.prog u = .ok (.slice ao (k - m) (k - m)) u := by
  subst hi
  refine ⟨if k = m then some ⟨g, 0, none⟩ else some ⟨g, m, none⟩, fun h => by rw [if_neg (by omega)], fun u => ?_⟩
  have hu : Tryd.prog.underlying 26 = some (.slice (Tryd.prog.elem 26)) := by kernel_rfl
  have hsz : (sizeOf (Tryd.prog.elem 26)).run Tryd.prog u = .ok 1 u := by kernel_rfl
  rw [run_sliceAt_slice (h := hu), run_slice_l (ht := hu) (h0 := by omega) (h1 := by omega), hsz]
  simp [Result.andThen, sliced, Addr.add_mid]

/-- Build, refused. -/
theorem build_bad (h : Hd) (vo vb : Value) (B : List Nat) (w : World) (hok : h.Ok) (hvo : SeesB w vo h.opts) (hvb : SeesB w vb B) (hlo : h.opts.length ≤ 140737488355328) (hlb : B.length ≤ 140737488355328) (he : refE h B.length ≠ 0) :
    Calls Tryd.prog 41 #[.agg (pkCells h vo vb)] w fun e w' => e = .returned (.tuple #[.slice none 0 0, .int .i64 (refE h B.length)]) ∧ Below w.heap.size w w' := by
  obtain ⟨w1, hw1⟩ : ∃ w1, w1 = w.alloc (.cells (pkCells h vo vb) 35) := ⟨_, rfl⟩
  have hb1 : Below w.heap.size w w1 := by rw [hw1]; exact (Below.refl _ _).alloc (Nat.le_refl _) _
  have hk1 : w1.heap[w.heap.size]? = some (.cells (pkCells h vo vb) 35) := by rw [hw1]; exact heap_alloc_new w _
  have HA := hid (area_code vo h.opts w1 (hvo.below hb1))
  have HP := hid (piece_code h.off B.length h.mf w1 hok.off (by omega))
  obtain ⟨ao, n, cap, rfl, HN, hn1, hn2⟩ := hvo.shape
  obtain ⟨ab, nb, capb, rfl, HNB, hnb1, hnb2⟩ := hvb.shape
  have hn47 : n ≤ 140737488355328 := by have := HN.out; omega
  have hnb47 : nb ≤ 140737488355328 := by have := HNB.out; omega
  have c3 : w1.cell? ⟨w.heap.size, 3, none⟩ = some (.bool h.mf) := pk_at hk1 3 (by omega)
  have c4 : w1.cell? ⟨w.heap.size, 4, none⟩ = some (.int .i64 h.off) := pk_at hk1 4 (by omega)
  have c9 : w1.cell? ⟨w.heap.size, 9, none⟩ = some (.slice ao n cap) := pk_at hk1 9 (by omega)
  have c10 : w1.cell? ⟨w.heap.size, 10, none⟩ = some (.slice ab nb capb) := pk_at hk1 10 (by omega)
  rw [← HNB.out] at HP
  have HW1 := hid hw1
  have HB1 := hid hb1
  obtain ⟨R, hR⟩ : ∃ R, R = refE h B.length := ⟨_, rfl⟩
  have HR : Hid (R = if M.area h.opts then (if M.pieceOk h.off nb h.mf then (if 20 + n + nb ≤ 65535 then 0 else 37) else 36) else 34) := by
    unfold Hid; rw [hR, HN.out, HNB.out]; rfl
  have HRN : Hid (R ≠ 0) := by unfold Hid; rw [hR]; exact he
  rw [← hR]
  clear hw1 hb1 hvo hvb hk1 hR he hlo hlb
  generalize M.area h.opts = ar at *
  generalize M.pieceOk h.off nb h.mf = pc at *
  generalize pkCells h (.slice ao n cap) (.slice ab nb capb) = pk at *
  cases ar
  · have HE : Hid (R = 34) := HR.out
    go_enter Tryd.func41, Tryd.ntmps41
    go_upto_region 1 with fail
    rw [← HW1.out]
    go_wp2_with fail
    refine HA.out.mono ?_
    rintro _ _ ⟨rfl, e⟩
    obtain rfl := e.symm
    go_wp2_with fail
    refine bodyPost_ret (results_tmp2 Tryd.results41 _ _ _) rfl ?_
    exact ⟨by rw [HE.out]; rfl, HB1.out⟩
  · cases pc
    · have HE : Hid (R = 36) := HR.out
      go_enter Tryd.func41, Tryd.ntmps41
      go_upto_region 1 with fail
      rw [← HW1.out]
      go_wp2_with fail
      refine HA.out.mono ?_
      rintro _ _ ⟨rfl, e⟩
      obtain rfl := e.symm
      go_wp2_with fail
      refine HP.out.mono ?_
      rintro _ _ ⟨rfl, e⟩
      obtain rfl := e.symm
      go_wp2_with fail
      refine bodyPost_ret (results_tmp2 Tryd.results41 _ _ _) rfl ?_
      exact ⟨by rw [HE.out]; rfl, HB1.out⟩
    · have hbig : 65535 < 20 + n + nb := by
        rcases Nat.lt_or_ge 65535 (20 + n + nb) with g | g
        · exact g
        · exfalso; apply HRN.out; rw [HR.out]; simp [g]
      have HE : Hid (R = 37) := by
        unfold Hid; rw [HR.out]; simp; omega
      go_enter Tryd.func41, Tryd.ntmps41
      go_upto_region 1 with fail
      rw [← HW1.out]
      go_wp2_with fail
      refine HA.out.mono ?_
      rintro _ _ ⟨rfl, e⟩
      obtain rfl := e.symm
      go_wp2_with fail
      refine HP.out.mono ?_
      rintro _ _ ⟨rfl, e⟩
      obtain rfl := e.symm
      go_wp2_with fail
      refine bodyPost_ret (results_tmp2 Tryd.results41 _ _ _) rfl ?_
      exact ⟨by rw [HE.out]; rfl, HB1.out⟩

theorem bytes_hd20 {h : Hd} (hok : h.Ok) {len f : Nat} (hl : len < 65536) (hf : h.off = (f : Int)) (hf1 : f ≤ 65528) (hol : h.opts.length ≤ 40) (ho : ∀ x ∈ h.opts, x < 256) : ∀ x ∈ hd20 h len 0, x < 256 := fun x hx =>
  hdBytes_ok hok ho hol hf hf1 hl (by omega : (0 : Nat) < 65536) x (by rw [hdBytes_eq]; exact List.mem_append_left _ hx)

theorem gap20 (h : Hd) (t : Nat) (T U : List Nat) : (hd20 h t 0 ++ T).take 10 ++ 0 :: 0 :: (hd20 h t 0 ++ U).drop 12 = hd20 h t 0 ++ U := by simp [hd20]

theorem set20 (h : Hd) (t s : Nat) (T : List Nat) : ((hd20 h t 0 ++ T).set 10 (s / 256)).set 11 (s % 256) = hd20 h t s ++ T := by simp [hd20]

theorem len20 (h : Hd) (t s : Nat) : (hd20 h t s).length = 20 := rfl

/-- What the sum is written into, and what comes of it. -/
theorem sealed (h : Hd) (B : List Nat) (t n : Nat) (hn : n = h.opts.length) (ht : t = lenOfPk h B) (he : refE h B.length = 0) :
    (((hd20 h t 0 ++ (h.opts ++ B)).set 10 (M.csum ((hd20 h t 0 ++ (h.opts ++ B)).take 10 ++ ((hd20 h t 0 ++ (h.opts ++ B)).take (20 + n)).drop 12) / 256)).set 11 (M.csum ((hd20 h t 0 ++ (h.opts ++ B)).take 10 ++ ((hd20 h t 0 ++ (h.opts ++ B)).take (20 + n)).drop 12) % 256)) = builtL h B := by
  have e1 : (hd20 h t 0 ++ (h.opts ++ B)).take (20 + n) = hd20 h t 0 ++ h.opts := by
    rw [← List.append_assoc, List.take_left' (by rw [List.length_append, len20, hn])]
  have e2 : M.csum ((hd20 h t 0 ++ (h.opts ++ B)).take 10 ++ (hd20 h t 0 ++ h.opts).drop 12) = M.csum (hdBytes h t 0) := by
    have := csum_gap ((hd20 h t 0 ++ (h.opts ++ B)).take 10) ((hd20 h t 0 ++ h.opts).drop 12) (by rw [List.length_take, List.length_append, len20, Nat.min_eq_left (by omega)])
    rw [gap20] at this
    rw [hdBytes_eq, this]
  rw [e1, e2, set20]
  unfold builtL
  rw [if_pos he, ← ht, hdBytes_eq h t (M.csum (hdBytes h t 0)), List.append_assoc]

set_option maxHeartbeats 1000000 in
/-- Build, done. -/
theorem build_good (h : Hd) (vo vb : Value) (B : List Nat) (w : World) (hok : h.Ok) (hvo : SeesB w vo h.opts) (hvb : SeesB w vb B) (he : refE h B.length = 0) :
    Calls Tryd.prog 41 #[.agg (pkCells h vo vb)] w fun e w' => ∃ ao n cap, e = .returned (.tuple #[.slice ao n cap, .int .i64 0]) ∧ SeesB w' (.slice ao n cap) (builtL h B) ∧ Below w.heap.size w w' := by
  obtain ⟨r1, r2, r3⟩ := refE_ok he
  obtain ⟨l1, l2⟩ := area_len r1
  obtain ⟨f, hf, hf1⟩ : ∃ f : Nat, h.off = (f : Int) ∧ f ≤ 65528 := by
    unfold M.pieceOk at r2
    simp at r2
    exact ⟨h.off.toNat, by omega, by omega⟩
  obtain ⟨w1, hw1⟩ : ∃ w1, w1 = w.alloc (.cells (pkCells h vo vb) 35) := ⟨_, rfl⟩
  have hb1 : Below w.heap.size w w1 := by rw [hw1]; exact (Below.refl _ _).alloc (Nat.le_refl _) _
  have hs1 : w1.heap.size = w.heap.size + 1 := by rw [hw1]; simp
  have HK : Hid (∀ u, Below w1.heap.size w1 u → u.heap[w.heap.size]? = some (.cells (pkCells h vo vb) 35)) := fun u hu => by
    rw [hu.block _ (by omega), hw1]; exact heap_alloc_new w _
  have hk1 := HK.out _ (Below.refl _ _)
  have HA0 := area_code vo h.opts w1 (hvo.below hb1)
  have HP0 := piece_code h.off B.length h.mf w1 hok.off (by omega)
  rw [r1] at HA0
  rw [r2] at HP0
  have HVO := hid hvo
  have HVB := hid hvb
  obtain ⟨ao, n, cap, rfl, HN, hn1, hn2⟩ := hvo.shape
  obtain ⟨ab, nb, capb, rfl, HNB, hnb1, hnb2⟩ := hvb.shape
  unfold maxLen at hn2 hnb2
  rw [← HNB.out] at HP0
  have HA := hid HA0
  have HP := hid HP0
  clear HA0 HP0
  have c3 : w1.cell? ⟨w.heap.size, 3, none⟩ = some (.bool h.mf) := pk_at hk1 3 (by omega)
  have c4 : w1.cell? ⟨w.heap.size, 4, none⟩ = some (.int .i64 h.off) := pk_at hk1 4 (by omega)
  have c9 : w1.cell? ⟨w.heap.size, 9, none⟩ = some (.slice ao n cap) := pk_at hk1 9 (by omega)
  have c10 : w1.cell? ⟨w.heap.size, 10, none⟩ = some (.slice ab nb capb) := pk_at hk1 10 (by omega)
  have hn40 : n ≤ 40 := by have := HN.out; omega
  have htot : 20 + n + nb ≤ 65535 := by have := HN.out; have := HNB.out; omega
  obtain ⟨tot, ht⟩ : ∃ tot, tot = 20 + n + nb := ⟨_, rfl⟩
  have hmk := make_bytes tot (by omega)
  obtain ⟨w2, hw2⟩ : ∃ w2, w2 = w1.alloc (.cells (madeCells #[.int .u8 0] tot) 5) := ⟨_, rfl⟩
  have hB2 : Blk w2 w1.heap.size (z20 ++ List.replicate (n + nb) 0) := by
    have := made_blk w1 tot
    rw [← hw2, ht, show 20 + n + nb = 20 + (n + nb) by omega, ← List.replicate_append_replicate] at this
    exact this
  have hb2 : Below w1.heap.size w1 w2 := by rw [hw2]; exact (Below.refl _ _).alloc (Nat.le_refl _) _
  have hbw2 : Below w.heap.size w w2 := hb1.trans (hb2.mono hb1.size)
  have HLAY := hid (layHead_any h (.slice ao n cap) w1.heap.size tot f (List.replicate (n + nb) 0) w2 hok hB2 (by rw [List.length_append, List.length_replicate, ht]; show 20 + _ = _; omega) (by omega) hf hf1 (HVO.out.below hbw2) l1 l2)
  have HL2 := hid (pk_loadH (HK.out _ hb2))
  obtain ⟨a20, HA20, k20⟩ := cut_end w1.heap.size tot 20 20 rfl (by omega)
  obtain ⟨aS, HAS, kS⟩ := cut_end w1.heap.size tot (20 + n) (20 + (n : Int)) (by omega) (by omega)
  have kH : ∀ u : World, (Instr.sliceAt 26 (.slice (some ⟨w1.heap.size, 0, none⟩) tot tot) none (some (.int .i64 (20 + (n : Int)))) none).run Tryd.prog u = .ok (.slice (some ⟨w1.heap.size, 0, none⟩) (20 + n) tot) u := fun u => by
    have hu : Tryd.prog.underlying 26 = some (.slice (Tryd.prog.elem 26)) := by kernel_rfl
    have hsz : (sizeOf (Tryd.prog.elem 26)).run Tryd.prog u = .ok 1 u := by kernel_rfl
    rw [run_sliceAt_slice (h := hu), run_slice_h (ht := hu) (h0 := by omega) (h2 := by omega), hsz]
    simp [Result.andThen, sliced, Addr.add]
    omega
  have HOB : Hid (∀ x ∈ h.opts, x < 256) := HVO.out.bytes
  have HBB : Hid (∀ x ∈ B, x < 256) := HVB.out.bytes
  have H20B := hid (bytes_hd20 hok (len := tot) (by omega) hf hf1 l1 HOB.out)
  have HSEAL : Hid (∀ u, Blk u w1.heap.size (hd20 h tot 0 ++ (h.opts ++ B)) → Calls Tryd.prog 66 #[.slice (some ⟨w1.heap.size, 0, none⟩) (20 + n) tot] u fun e w' => e = .returned (.tuple #[]) ∧ Hid (Blk w' w1.heap.size (builtL h B)) ∧ But w1.heap.size u w') := fun u hu => by
    have hlen : (hd20 h tot 0 ++ (h.opts ++ B)).length = tot := by
      rw [List.length_append, List.length_append, ht, HN.out, HNB.out]; show 20 + _ = _; omega
    have := seal_any w1.heap.size (20 + n) tot (hd20 h tot 0 ++ (h.opts ++ B)) u hu (fun x hx => by
      rcases List.mem_append.1 hx with hx | hx
      · exact H20B.out x hx
      · rcases List.mem_append.1 hx with hx | hx
        · exact HOB.out x hx
        · exact HBB.out x hx) (by omega) (by omega) (by omega) (by omega)
    refine this.mono ?_
    rintro e w' ⟨rfl, hB, hu'⟩
    refine ⟨rfl, ?_, hu'⟩
    rw [sealed h B tot n HN.out (by unfold lenOfPk; rw [ht, HN.out, HNB.out]) he] at hB
    exact hB
  have HEZ := hid he
  have HBX : Hid (∀ x ∈ builtL h B, x < 256) := by
    unfold Hid builtL
    rw [if_pos he]
    intro x hx
    rcases List.mem_append.1 hx with hx | hx
    · exact hdBytes_ok hok HOB.out l1 hf hf1 (by unfold lenOfPk; omega) (M.csum_lt _) x hx
    · exact HBB.out x hx
  have HW1 := hid hw1
  have HW2 := hid hw2
  have HB1 := hid hb1
  have HBW : Hid (∀ u, Below w1.heap.size w1 u → Below w.heap.size w u) := fun u hu => HB1.out.trans (hu.mono HB1.out.size)
  have HCC : Hid (∀ u, Below w1.heap.size w1 u → u.cell? ⟨w.heap.size, 9, none⟩ = some (.slice ao n cap) ∧ u.cell? ⟨w.heap.size, 10, none⟩ = some (.slice ab nb capb)) := fun u hu => ⟨pk_at (HK.out u hu) 9 (by omega), pk_at (HK.out u hu) 10 (by omega)⟩
  have HTT := hid ht
  have hS20 : (20 : Int) + (n : Int) ≤ (tot : Int) := by omega
  have htot' : tot ≤ 65535 := by omega
  have htn : 20 + n ≤ tot := by omega
  have HET : Hid ((20 : Int) + (n : Int) + (nb : Int) = (tot : Int)) := by unfold Hid; omega
  have HB2 := hid hb2
  clear hw1 hw2 hvo hvb hk1 hb1 hbw2 r1 r2 r3 he hf ht hs1
  generalize pkCells h (.slice ao n cap) (.slice ab nb capb) = pk at *
  generalize hdCells h (.slice ao n cap) = hc at *
  go_enter Tryd.func41, Tryd.ntmps41
  go_upto_region 1 with fail
  rw [← HW1.out]
  go_wp2_with fail
  refine HA.out.mono ?_
  rintro _ _ ⟨rfl, e⟩
  obtain rfl := e.symm
  go_wp2_with fail
  refine HP.out.mono ?_
  rintro _ _ ⟨rfl, e⟩
  obtain rfl := e.symm
  go_upto_region 9 with fail
  simp only [HET.out]
  go_upto_region 10 with fail
  rw [← HW2.out]
  go_wp2_with (first | (refine wpList_ld 33 ⟨w.heap.size, 0, none⟩ (.tmp 41) rfl rfl HL2.out rfl ?_) | fail)
  refine HLAY.out.mono ?_
  rintro _ w3 ⟨rfl, hB3, hu3⟩
  have hb3 : Below w1.heap.size w1 w3 := hu3.below HB2.out HB2.out.size (Nat.le_refl _)
  obtain ⟨d9, d10⟩ := HCC.out _ hb3
  have HG3 : Hid (w3.heap[w1.heap.size]? = some (.cells (bs (hd20 h tot 0 ++ List.replicate (n + nb) 0)).toArray 5 (0, 0))) := hB3
  obtain ⟨X3, hX3⟩ : ∃ X3, X3 = bs (hd20 h tot 0 ++ List.replicate (n + nb) 0) := ⟨_, rfl⟩
  obtain ⟨O3, hO3⟩ : ∃ O3, O3 = bs h.opts := ⟨_, rfl⟩
  have HO3 := hid hO3
  have HX3 := hid hX3
  have HLO : Hid (O3.length = n) := by unfold Hid; rw [hO3, bs, List.length_map, HN.out]
  have HLX : Hid (X3.length = tot) := by unfold Hid; rw [hX3, bs, List.length_map, List.length_append, len20, List.length_replicate]; have := HTT.out; omega
  rw [← hX3] at HG3
  clear hX3 hO3 HLAY HA HP c3 c4 c9 c10 hu3 hB3 hmk HL2 HW2
  have HMN : Hid (O3.length = Nat.min n (tot - 20)) := by unfold Hid; rw [HLO.out]; have := HTT.out; show n = min n (tot - 20); omega
  have HPS : Hid (0 < O3.length → a20 = some ⟨w1.heap.size, 20, none⟩ ∧ ∃ ad, ao = some ad ∧ ∀ j v, O3[j]? = some v → w3.drew.cell? (ad.add j) = some v) := fun hp => by
    refine ⟨HA20.out (by have := HLO.out; have := HTT.out; omega), ?_⟩
    rw [HO3.out] at hp ⊢
    exact (HVO.out.below (HBW.out _ (below_drew hb3))).src hp
  have HFT : Hid (20 + O3.length ≤ X3.length) := by unfold Hid; rw [HLO.out, HLX.out]; have := HTT.out; omega
  have HO1 : Hid (∀ v ∈ O3, v.oneCell' = true) := fun v hv => by
    rw [HO3.out] at hv
    obtain ⟨y, _, rfl⟩ := List.mem_map.1 hv
    rfl
  have HBD3 := hid (below_drew hb3)
  go_upto_region 11 with fail
  go_cut [] from 44 (fun wx => Hid (wx.heap[w1.heap.size]? = some (.cells (splice X3 20 O3).toArray 5 (0, 0))) ∧ Below w1.heap.size w1 wx)
  case first =>
    go_region_law (first
      | (refine step_copy_splice rfl (.tmp 45) (.tmp 48) 26 26 rfl 5 Tryd.underlying26 size5 a20 ao (tot - 20) (tot - 20) n cap rfl rfl w1.heap.size 20 X3 5 HG3.out O3 HMN.out HPS.out HFT.out HO1.out w1.heap.size w1 HBD3.out (Nat.le_refl _) ?_; intro w4 hg4 hb4)
      | fail)
    all_goals (
      go_wp2_with fail
      go_meet
      case rel => exact ⟨hg4, hb4⟩)
  case rest =>
  obtain ⟨HG4, hb4⟩ := hcut
  obtain ⟨w4, hw4⟩ : ∃ w4, w4 = wc := ⟨_, rfl⟩
  rw [← hw4] at HG4 hb4 ⊢
  clear hw4 d9 d10 HMN HPS HFT HO1 HBD3 hb3 HG3 k20
  obtain ⟨e9, e10⟩ := HCC.out _ hb4
  obtain ⟨X4, hX4⟩ : ∃ X4, X4 = splice X3 20 O3 := ⟨_, rfl⟩
  obtain ⟨O4, hO4⟩ : ∃ O4, O4 = bs B := ⟨_, rfl⟩
  rw [← hX4] at HG4
  have HX4 := hid hX4
  have HO4 := hid hO4
  have HLO4 : Hid (O4.length = nb) := by unfold Hid; rw [hO4, bs, List.length_map, HNB.out]
  have HLX4 : Hid (X4.length = tot) := by unfold Hid; rw [hX4, length_splice _ _ _ (by rw [HLO.out, HLX.out]; have := HTT.out; omega), HLX.out]
  have HMN : Hid (O4.length = Nat.min nb (tot - (20 + n))) := by unfold Hid; rw [HLO4.out]; have := HTT.out; show nb = min nb (tot - (20 + n)); omega
  have HPS : Hid (0 < O4.length → aS = some ⟨w1.heap.size, 20 + n, none⟩ ∧ ∃ ad, ab = some ad ∧ ∀ j v, O4[j]? = some v → w4.drew.cell? (ad.add j) = some v) := fun hp => by
    refine ⟨HAS.out (by have := HLO4.out; have := HTT.out; omega), ?_⟩
    rw [HO4.out] at hp ⊢
    exact (HVB.out.below (HBW.out _ (below_drew hb4))).src hp
  have HFT : Hid (20 + n + O4.length ≤ X4.length) := by unfold Hid; rw [HLO4.out, HLX4.out]; have := HTT.out; omega
  have HO1 : Hid (∀ v ∈ O4, v.oneCell' = true) := fun v hv => by
    rw [HO4.out] at hv
    obtain ⟨y, _, rfl⟩ := List.mem_map.1 hv
    rfl
  have HBD4 := hid (below_drew hb4)
  clear hX4 hO4
  go_upto_region 12 with fail
  go_cut [] from 50 (fun wx => Hid (wx.heap[w1.heap.size]? = some (.cells (splice X4 (20 + n) O4).toArray 5 (0, 0))) ∧ Below w1.heap.size w1 wx)
  case first =>
    go_region_law (first
      | (refine step_copy_splice rfl (.tmp 52) (.tmp 54) 26 26 rfl 5 Tryd.underlying26 size5 aS ab (tot - (20 + n)) (tot - (20 + n)) nb capb rfl rfl w1.heap.size (20 + n) X4 5 HG4.out O4 HMN.out HPS.out HFT.out HO1.out w1.heap.size w1 HBD4.out (Nat.le_refl _) ?_; intro w5 hg5 hb5)
      | fail)
    all_goals (
      go_wp2_with fail
      go_meet
      case rel => exact ⟨hg5, hb5⟩)
  case rest =>
  obtain ⟨HG5, hb5⟩ := hcut
  obtain ⟨w5, hw5⟩ : ∃ w5, w5 = wc := ⟨_, rfl⟩
  rw [← hw5] at HG5 hb5 ⊢
  clear hw5 e9 e10 HMN HPS HFT HO1 HBD4 HG4 kS
  have hB5 : Blk w5 w1.heap.size (hd20 h tot 0 ++ (h.opts ++ B)) := by
    have e1 : splice X3 20 O3 = bs (hd20 h tot 0 ++ (h.opts ++ List.replicate nb 0)) := by
      rw [HX3.out, HO3.out, bs_splice, splice_head (len20 _ _ _).symm, List.drop_replicate, ← HN.out, show n + nb - n = nb by omega]
    have e2 : splice X4 (20 + n) O4 = bs (hd20 h tot 0 ++ (h.opts ++ B)) := by
      rw [HX4.out, e1, HO4.out, bs_splice, ← List.append_assoc, splice_head (by rw [List.length_append, len20, HN.out]), List.drop_replicate, ← HNB.out, Nat.sub_self]
      simp
    have := HG5.out
    rw [e2] at this
    exact this
  have HSL := hid (HSEAL.out _ hB5)
  clear hB5 HSEAL HG5
  go_wp2_with fail
  refine HSL.out.mono ?_
  rintro _ w6 ⟨rfl, hB6, hu6⟩
  have hb6 : Below w1.heap.size w1 w6 := hu6.below hb5 hb5.size (Nat.le_refl _)
  go_wp2_with fail
  refine bodyPost_ret (results_tmp2 Tryd.results41 _ _ _) rfl ?_
  refine ⟨some ⟨w1.heap.size, 0, none⟩, tot, tot, rfl, ?_, HBW.out _ hb6⟩
  have hlen : (builtL h B).length = tot := by
    have := HTT.out
    have e : (bs (builtL h B)).length = tot := by
      unfold builtL
      rw [if_pos HEZ.out, bs, List.length_map, List.length_append, hdBytes_len, this, HN.out, HNB.out]
    simpa [bs] using e
  have hx : ∀ x ∈ builtL h B, x < 256 := HBX.out
  have := hB6.out.sees hx 0 tot tot (by omega) (Nat.le_refl _) (by unfold maxLen; omega)
  rwa [List.drop_zero, List.take_of_length_le (by omega)] at this
end Go.Proofs.YtcboenmmkaochabDoor.N

namespace Go.Proofs.YtcboenmmkaochabDoor.N
open Go.ChangeShapes Go.WideShapes Go.ChangeAt Go.RowKit
set_option maxHeartbeats 400000
set_option maxRecDepth 100000

theorem same_any (v v' : Value) (A B : List Nat) (w : World) (hv : SeesB w v A) (hv' : SeesB w v' B) :
    Calls Tryd.prog 20 #[v, v'] w fun e w' => e = .returned (.bool (decide (A = B))) ∧ Below w.heap.size w w' := by
  obtain ⟨ao, n, cap, rfl, HN, hn1, hn2⟩ := hv.shape
  obtain ⟨ao', n', cap', rfl, HN', hn1', hn2'⟩ := hv'.shape
  unfold maxLen at hn2 hn2'
  obtain ⟨R, hR⟩ : ∃ R, R = decide (A = B) := ⟨_, rfl⟩
  have HR := hid hR
  rw [← hR]
  have HV := hid hv
  have HV' := hid hv'
  clear hR hv hv'
  by_cases hl : n = n'
  · subst hl
    have hq : ((n : Int) != (n : Int)) = false := by simp
    go_enter Tryd.func20, Tryd.ntmps20
    go_wp2_with fail
    go_loopw [5] (fun i wv => ∃ (k : Nat) (wr : World), i = .int .i64 (k : Int) ∧ k ≤ n ∧ Hid (A.take k = B.take k) ∧ wr = wv ∧ Below w.heap.size w wr) (fun i _ => n - (intOf i).toNat)
    case atStart => exact ⟨0, _, rfl, by omega, rfl, rfl, Below.refl _ _⟩
    case round =>
      obtain ⟨k, wr, rfl, hk, HK, rfl, hb⟩ := hrel
      by_cases hlt : k < n
      · obtain ⟨g, off, x, rfl, hg, hc, hx, HX⟩ := (HV.out.below hb).at k hlt
        obtain ⟨g', off', y, rfl, hg', hc', hy, HY⟩ := (HV'.out.below hb).at k hlt
        have b0 : (k : Int) < (n : Int) := by omega
        have b1 : (0 : Int) ≤ (k : Int) := by omega
        by_cases hxy : x = y
        · have hq2 : ((x : Int) != (y : Int)) = false := by simp [hxy]
          have HK2 : Hid (A.take (k + 1) = B.take (k + 1)) := by unfold Hid; rw [take_snoc HX.out, take_snoc HY.out, HK.out, hxy]
          clear hxy
          go_wp2_with fail
          go_quiet (fail)
          go_wp2_with fail
          go_roundw
          case rel => exact ⟨k + 1, _, by go_num, by omega, HK2, rfl, below_drewN hb _⟩
          case measure => simp [intOf]; omega
        · have hq2 : ((x : Int) != (y : Int)) = true := by simp; omega
          have HE : Hid (R = false) := by
            unfold Hid; rw [HR.out]; refine decide_eq_false (fun h => hxy ?_)
            have h1 := HX.out
            rw [h, HY.out] at h1
            simpa using h1.symm
          clear hxy
          go_wp2_with fail
          go_quiet (fail)
          go_wp2_with fail
          go_ret
          exact ⟨ret_bool (by rw [HE.out]), below_drewN hb _⟩
      · have HE : Hid (R = true) := by
          unfold Hid; rw [HR.out]; refine decide_eq_true ?_
          have h := HK.out
          rw [List.take_of_length_le (by have := HN.out; omega), List.take_of_length_le (by have := HN'.out; omega)] at h
          exact h
        go_wp2_with fail
        go_ret
        exact ⟨ret_bool (by rw [HE.out]), hb⟩
  · have hq : ((n : Int) != (n' : Int)) = true := by simp; omega
    have HE : Hid (R = false) := by
      unfold Hid; rw [HR.out]; refine decide_eq_false (fun h => hl ?_)
      rw [HN.out, HN'.out, h]
    clear hl
    go_enter Tryd.func20, Tryd.ntmps20
    go_wp2_with fail
    go_ret
    exact ⟨ret_bool (by rw [HE.out]), Below.refl _ _⟩
end Go.Proofs.YtcboenmmkaochabDoor.N

namespace Go.Proofs.YtcboenmmkaochabDoor.N.Im
open M

/-- A control message. -/
structure Ct where
  t : Nat
  c : Nat
  r : Nat
  B : List Nat

structure Ct.Ok (m : Ct) : Prop where
  t : m.t < 256
  c : m.c < 256
  r : m.r < 4294967296

/-- What lies behind the sum's field. -/
def tail (m : Ct) : List Nat := m.r / 65536 / 256 :: m.r / 65536 % 256 :: m.r % 65536 / 256 :: m.r % 65536 % 256 :: m.B

/-- A message with that in its sum's place. -/
def msg (m : Ct) (s : Nat) : List Nat := m.t :: m.c :: s / 256 :: s % 256 :: tail m

/-- A message with its sum. -/
def laid (m : Ct) : List Nat := msg m (csum (msg m 0))

theorem msg_len (m : Ct) (s : Nat) : (msg m s).length = 8 + m.B.length := by simp [msg, tail]; omega
theorem laid_len (m : Ct) : (laid m).length = 8 + m.B.length := msg_len _ _

theorem tot_msg (m : Ct) (s : Nat) : tot false (msg m s) = tot false (msg m 0) + s := by
  simp only [msg, tot]; simp; omega

theorem csum_laid (m : Ct) : csum (laid m) = 0 := by
  unfold laid
  generalize hT : csum (msg m 0) = s
  unfold csum at hT ⊢
  rw [tot_msg]
  generalize tot false (msg m 0) = T at *
  subst hT
  unfold fold
  by_cases h0 : T = 0
  · subst h0; simp
  · rw [if_neg h0, if_neg (by omega)]
    omega

theorem msg_bytes {m : Ct} (h : m.Ok) (hb : ∀ x ∈ m.B, x < 256) {s : Nat} (hs : s < 65536) : ∀ x ∈ msg m s, x < 256 := by
  obtain ⟨h1, h2, h3⟩ := h
  intro x hx
  simp only [msg, tail, List.mem_cons] at hx
  rcases hx with rfl | rfl | rfl | rfl | rfl | rfl | rfl | rfl | hx
  · exact h1
  · exact h2
  · omega
  · omega
  · omega
  · omega
  · omega
  · omega
  · exact hb x hx

theorem laid_bytes {m : Ct} (h : m.Ok) (hb : ∀ x ∈ m.B, x < 256) : ∀ x ∈ laid m, x < 256 := msg_bytes h hb (csum_lt _)

/-- The error of reading. -/
def prE (L : List Nat) : Int := if L.length < 8 then 30 else if 65515 < L.length then 37 else if csum L = 0 then 0 else 33

def at0 (L : List Nat) (i : Nat) : Nat := L.getD i 0

def rest4 (L : List Nat) : Nat := (at0 L 4 * 256 + at0 L 5) * 65536 + (at0 L 6 * 256 + at0 L 7)

def none0 : Ct := ⟨0, 0, 0, []⟩

/-- What is read. -/
def prC (L : List Nat) : Ct := if prE L = 0 then ⟨at0 L 0, at0 L 1, rest4 L, L.drop 8⟩ else none0

theorem at0_lt {L : List Nat} (h : ∀ x ∈ L, x < 256) (i : Nat) : at0 L i < 256 := by
  unfold at0
  rw [List.getD_eq_getElem?_getD]
  cases e : L[i]? with
  | none => simp
  | some x => exact h x (List.mem_of_getElem? e)

theorem rest4_lt {L : List Nat} (h : ∀ x ∈ L, x < 256) : rest4 L < 4294967296 := by
  have h4 := at0_lt h 4
  have h5 := at0_lt h 5
  have h6 := at0_lt h 6
  have h7 := at0_lt h 7
  unfold rest4; omega

theorem none_ok : none0.Ok := ⟨by decide, by decide, by decide⟩

theorem prC_ok {L : List Nat} (h : ∀ x ∈ L, x < 256) : (prC L).Ok := by
  unfold prC
  split
  · exact ⟨at0_lt h 0, at0_lt h 1, rest4_lt h⟩
  · exact none_ok

theorem prC_bytes {L : List Nat} (h : ∀ x ∈ L, x < 256) : ∀ x ∈ (prC L).B, x < 256 := by
  unfold prC
  split
  · intro x hx; exact h x (List.mem_of_mem_drop hx)
  · intro x hx; cases hx

theorem prC_len (L : List Nat) : (prC L).B.length ≤ 65507 := by
  unfold prC
  split
  · rename_i h
    unfold prE at h
    split at h
    · cases h
    · split at h
      · cases h
      · show (L.drop 8).length ≤ 65507
        rw [List.length_drop]; omega
  · simp [none0]

theorem prE_cases (L : List Nat) : prE L = 0 ∨ prE L = 30 ∨ prE L = 37 ∨ prE L = 33 := by
  unfold prE
  split
  · simp
  · split
    · simp
    · split <;> simp

/-- What was laid is read back. -/
theorem prE_laid (m : Ct) (hl : m.B.length ≤ 65507) : prE (laid m) = 0 := by
  unfold prE
  rw [laid_len, if_neg (by omega), if_neg (by omega), if_pos (csum_laid m)]

theorem prC_laid (m : Ct) (h : m.Ok) (hl : m.B.length ≤ 65507) : prC (laid m) = m := by
  obtain ⟨h1, h2, h3⟩ := h
  unfold prC
  rw [if_pos (prE_laid m hl)]
  obtain ⟨t, c, r, B⟩ := m
  simp only at h3
  simp only [laid, msg, tail, at0, rest4, List.getD_cons_zero, List.getD_cons_succ, List.drop_succ_cons, List.drop_zero]
  congr 1
  omega

/-- What is built. -/
def bdE (m : Ct) : Int := if 65507 < m.B.length then 37 else 0
def bdL (m : Ct) : List Nat := if 65507 < m.B.length then [] else laid m

theorem tot_set (L : List Nat) : ∀ (o : Bool) (i y : Nat), i < L.length → ∃ wt, (wt = 1 ∨ wt = 256) ∧ tot o (L.set i y) + wt * L.getD i 0 = tot o L + wt * y := by
  induction L with
  | nil => intro o i y h; simp at h
  | cons x L ih =>
    intro o i y h
    cases i with
    | zero =>
      cases o
      · exact ⟨256, .inr rfl, by simp only [List.set_cons_zero, tot, List.getD_cons_zero]; simp; omega⟩
      · exact ⟨1, .inl rfl, by simp only [List.set_cons_zero, tot, List.getD_cons_zero]; simp; omega⟩
    | succ i =>
      obtain ⟨wt, h1, h2⟩ := ih (!o) i y (by simpa using h)
      refine ⟨wt, h1, ?_⟩
      simp only [List.set_cons_succ, tot, List.getD_cons_succ]
      omega

theorem csum_zero {L : List Nat} (h : csum L = 0) : tot false L ≠ 0 ∧ tot false L % 65535 = 0 := by
  unfold csum fold at h
  split at h
  · omega
  · omega

/-- One bit. -/
def IsBit (m : Nat) : Prop := m = 1 ∨ m = 2 ∨ m = 4 ∨ m = 8 ∨ m = 16 ∨ m = 32 ∨ m = 64 ∨ m = 128

theorem csum_flip {L : List Nat} {i x y m : Nat} (hi : i < L.length) (hx : L.getD i 0 = x) (hm : IsBit m) (hxy : y = x + m ∨ x = y + m) (h0 : csum L = 0) : csum (L.set i y) ≠ 0 := by
  intro h1
  obtain ⟨a1, a2⟩ := csum_zero h0
  obtain ⟨b1, b2⟩ := csum_zero h1
  obtain ⟨wt, hw, e⟩ := tot_set L false i y hi
  rw [hx] at e
  generalize tot false (L.set i y) = T' at *
  generalize tot false L = T at *
  unfold IsBit at hm
  rcases hw with rfl | rfl <;> rcases hm with rfl | rfl | rfl | rfl | rfl | rfl | rfl | rfl <;> omega

/-- What was read is a message. -/
theorem msg_read {L : List Nat} (hb : ∀ x ∈ L, x < 256) (h : prE L = 0) : L = msg (prC L) (at0 L 2 * 256 + at0 L 3) ∧ at0 L 2 * 256 + at0 L 3 < 65536 := by
  have h2 := at0_lt hb 2
  have h3 := at0_lt hb 3
  refine ⟨?_, by omega⟩
  unfold prC
  rw [if_pos h]
  have hl : 8 ≤ L.length := by
    unfold prE at h
    split at h
    · cases h
    · omega
  match L, hl with
  | a :: b :: c :: d :: e :: f :: g :: k :: B, _ =>
    have q : ∀ x ∈ [a, b, c, d, e, f, g, k], x < 256 := fun x hx => hb x (by simp only [List.mem_cons, List.not_mem_nil, or_false] at hx ⊢; rcases hx with h | h | h | h | h | h | h | h <;> simp [h])
    simp only [List.mem_cons, List.not_mem_nil, or_false, forall_eq_or_imp, forall_eq] at q
    obtain ⟨qa, qb, qc, qd, qe, qf, qg, qk⟩ := q
    simp only [msg, tail, at0, rest4, List.getD_cons_zero, List.getD_cons_succ, List.drop_succ_cons, List.drop_zero]
    congr 1; congr 1
    congr 1
    · omega
    · congr 1
      · omega
      · congr 1
        · omega
        · congr 1
          · omega
          · congr 1
            · omega
            · congr 1
              omega

/-- The sum of what was read, laid anew. -/
theorem sum_read {L : List Nat} (hb : ∀ x ∈ L, x < 256) (h : prE L = 0) :
    at0 L 2 * 256 + at0 L 3 = csum (msg (prC L) 0) ∨ (at0 L 2 * 256 + at0 L 3 = 65535 ∧ csum (msg (prC L) 0) = 0) := by
  obtain ⟨e, hs⟩ := msg_read hb h
  have h0 : csum L = 0 := by
    unfold prE at h
    split at h
    · cases h
    · split at h
      · cases h
      · split at h
        · assumption
        · cases h
  obtain ⟨a1, a2⟩ := csum_zero h0
  rw [e, tot_msg] at a1 a2
  generalize at0 L 2 * 256 + at0 L 3 = s at *
  unfold csum fold
  generalize tot false (msg (prC L) 0) = T at *
  split <;> omega
end Go.Proofs.YtcboenmmkaochabDoor.N.Im

namespace Go.Proofs.YtcboenmmkaochabDoor.N
open Go.ChangeShapes Go.WideShapes Go.ChangeAt Go.RowKit
set_option maxHeartbeats 1000000
set_option maxRecDepth 100000

theorem iwrite16_any (g off n cap x : Nat) (X : List Nat) (w : World) (hB : Blk w g X) (hn : 2 ≤ n) (ho : off + n ≤ X.length) (hx : x < 65536) :
    Calls Tryd.prog 59 #[.slice (some ⟨g, off, none⟩) n cap, .int .u16 (x : Int)] w fun e w' => e = .returned (.tuple #[]) ∧ Blk w' g ((X.set off (x / 256)).set (off + 1) (x % 256)) ∧ But g w w' := by
  have c0 := hB.cell off (by omega)
  have c1 := hB.cell (off + 1) (by omega)
  have f0 := hB.free off
  have f1 := hB.free (off + 1)
  have HR : Hid (Blk ((w.setCell ⟨g, off, none⟩ (.int .u8 ((x / 256 : Nat) : Int))).setCell ⟨g, off + 1, none⟩ (.int .u8 ((x % 256 : Nat) : Int))) g ((X.set off (x / 256)).set (off + 1) (x % 256)) ∧ But g w ((w.setCell ⟨g, off, none⟩ (.int .u8 ((x / 256 : Nat) : Int))).setCell ⟨g, off + 1, none⟩ (.int .u8 ((x % 256 : Nat) : Int)))) := ⟨(hB.set _ _).set _ _, (But.set _ _ _ _).trans (But.set _ _ _ _)⟩
  generalize byt X off = y0 at c0
  generalize byt X (off + 1) = y1 at c1
  have hne : ¬ off + 1 = off := by omega
  have hne' : ¬ off = off + 1 := by omega
  clear hB
  go_enter Tryd.func59, Tryd.ntmps59
  go_wp2_with fail
  have e0 : ((x / 256 : Nat) : Int) = (x : Int) / 256 := by omega
  have e1 : ((x % 256 : Nat) : Int) = (x : Int) % 256 := by omega
  rw [e0, e1] at HR
  exact bodyPost_end (results_none Tryd.results59 _ _ _) rfl ⟨rfl, HR.out.1, HR.out.2⟩

theorem iwrite32_any (g off n cap x : Nat) (X : List Nat) (w : World) (hB : Blk w g X) (hn : 4 ≤ n) (hc : n ≤ cap) (ho : off + n ≤ X.length) (hx : x < 4294967296) :
    Calls Tryd.prog 58 #[.slice (some ⟨g, off, none⟩) n cap, .int .u32 (x : Int)] w fun e w' => e = .returned (.tuple #[]) ∧ Blk w' g ((((X.set off (x / 65536 / 256)).set (off + 1) (x / 65536 % 256)).set (off + 2) (x % 65536 / 256)).set (off + 3) (x % 65536 % 256)) ∧ But g w w' := by
  have H1 := hid (iwrite16_any g off n cap (x / 65536) X w hB (by omega) ho (by omega))
  have H2 : Hid (∀ (Y : List Nat) (u : World), Blk u g Y → Y.length = X.length → Calls Tryd.prog 59 #[.slice (some ⟨g, off + 2, none⟩) (n - 2) (cap - 2), .int .u16 ((x % 65536 : Nat) : Int)] u fun e w' => e = .returned (.tuple #[]) ∧ Blk w' g ((Y.set (off + 2) (x % 65536 / 256)).set (off + 2 + 1) (x % 65536 % 256)) ∧ But g u w') := fun Y u hY hl => iwrite16_any g (off + 2) (n - 2) (cap - 2) (x % 65536) Y u hY (by omega) (by omega) (by omega)
  have hcut := cut_at g off n cap 2 2 rfl (by omega) (by omega)
  have e0 : ((x / 65536 : Nat) : Int) = (x : Int) / 65536 := by omega
  have e1 : ((x % 65536 : Nat) : Int) = (x : Int) % 65536 := by omega
  rw [e0] at H1
  rw [e1] at H2
  clear hB
  go_enter Tryd.func58, Tryd.ntmps58
  go_wp2_with fail
  refine H1.out.mono ?_
  rintro _ w2 ⟨rfl, hb2, hu2⟩
  go_wp2_with fail
  refine (H2.out _ _ hb2 (by simp)).mono ?_
  rintro _ w3 ⟨rfl, hb3, hu3⟩
  go_wp2_with fail
  exact bodyPost_end (results_none Tryd.results58 _ _ _) rfl ⟨rfl, hb3, hu2.trans hu3⟩

theorem or_u32k (k x y : Nat) (hx : 2 ^ k * x + y < 4294967296) (hy : y < 2 ^ k) : bits .or .u32 ((2 ^ k * x : Nat) : Int) (y : Int) = ((2 ^ k * x + y : Nat) : Int) := by
  rw [u32_or_nat (2 ^ k * x) y (by omega) (by omega)]
  congr 1
  exact (Nat.two_pow_add_eq_or_of_lt (i := k) (b := y) hy x).symm

theorem or4 (a b c d : Nat) (ha : a < 256) (hb : b < 256) (hc : c < 256) (hd : d < 256) :
    bits .or .u32 (bits .or .u32 (bits .or .u32 ((a * 16777216 : Nat) : Int) ((b * 65536 : Nat) : Int)) ((c * 256 : Nat) : Int)) (d : Int) = (((a * 256 + b) * 65536 + (c * 256 + d) : Nat) : Int) := by
  have h1 := or_u32k 24 a (b * 65536) (by omega) (by omega)
  rw [show 2 ^ 24 * a = a * 16777216 by omega] at h1
  rw [h1]
  have h2 := or_u32k 16 (a * 256 + b) (c * 256) (by omega) (by omega)
  rw [show 2 ^ 16 * (a * 256 + b) = a * 16777216 + b * 65536 by omega] at h2
  rw [h2]
  have h3 := or_u32k 8 (a * 65536 + b * 256 + c) d (by omega) (by omega)
  rw [show 2 ^ 8 * (a * 65536 + b * 256 + c) = a * 16777216 + b * 65536 + c * 256 by omega] at h3
  rw [h3]
  exact congrArg Nat.cast (show a * 16777216 + b * 65536 + c * 256 + d = (a * 256 + b) * 65536 + (c * 256 + d) by omega)

theorem iread32_any (v : Value) (L : List Nat) (w : World) (hv : SeesB w v L) (hl : 4 ≤ L.length) :
    Calls Tryd.prog 34 #[v] w fun e w' => e = .returned (.int .u32 (((byt L 0 * 256 + byt L 1) * 65536 + (byt L 2 * 256 + byt L 3) : Nat) : Int)) ∧ Below w.heap.size w w' := by
  obtain ⟨ao, n, cap, rfl, HN, hn1, hn2⟩ := hv.shape
  have h2 : 4 ≤ n := by have := HN.out; omega
  obtain ⟨g, off, rfl, hg, hc0⟩ := hv.atB 0 (by omega)
  obtain ⟨g', off', he, hg', hc1⟩ := hv.atB 1 (by omega)
  simp at he
  obtain ⟨rfl, rfl⟩ := he
  obtain ⟨g', off', he, hg', hc2⟩ := hv.atB 2 (by omega)
  simp at he
  obtain ⟨rfl, rfl⟩ := he
  obtain ⟨g', off', he, hg', hc3⟩ := hv.atB 3 (by omega)
  simp at he
  obtain ⟨rfl, rfl⟩ := he
  have ha := byt_lt hv.bytes 0
  have hb := byt_lt hv.bytes 1
  have hc := byt_lt hv.bytes 2
  have hd := byt_lt hv.bytes 3
  have HR := hid (or4 _ _ _ _ ha hb hc hd)
  generalize (byt L 0 * 256 + byt L 1) * 65536 + (byt L 2 * 256 + byt L 3) = r at *
  generalize byt L 0 = p at *
  generalize byt L 1 = q at *
  generalize byt L 2 = s at *
  generalize byt L 3 = t at *
  clear hv
  rw [Nat.add_zero] at hc0
  have b0 : (0 : Int) < (n : Int) := by omega
  have b1 : (1 : Int) < (n : Int) := by omega
  have b2 : (2 : Int) < (n : Int) := by omega
  have b3 : (3 : Int) < (n : Int) := by omega
  go_enter Tryd.func34, Tryd.ntmps34
  go_wp2_with fail
  go_quiet (fail)
  go_wp2_with fail
  go_ret
  exact ⟨ret_int (by rw [← HR.out]; simp), below_drewN (Below.refl _ _) _⟩
end Go.Proofs.YtcboenmmkaochabDoor.N

namespace Go.Proofs.YtcboenmmkaochabDoor.N
open Go.ChangeShapes Go.WideShapes Go.ChangeAt Go.RowKit
set_option maxHeartbeats 2000000
set_option maxRecDepth 100000

def ctCells (m : Im.Ct) (vb : Value) : Array Value := #[.int .u8 (m.t : Int), .int .u8 (m.c : Int), .int .u32 (m.r : Int), vb]

theorem ct_at {u : World} {n : Nat} {m : Im.Ct} {vb : Value} {t : TypeId} (hb : u.heap[n]? = some (.cells (ctCells m vb) t)) :
    u.cell? ⟨n, 0, none⟩ = some (.int .u8 (m.t : Int)) ∧ u.cell? ⟨n, 1, none⟩ = some (.int .u8 (m.c : Int)) ∧ u.cell? ⟨n, 2, none⟩ = some (.int .u32 (m.r : Int)) ∧ u.cell? ⟨n, 3, none⟩ = some vb := by
  refine ⟨?_, ?_, ?_, ?_⟩ <;> (rw [cell_of_row u _ _ _ _ _ hb]; rfl)

theorem splice8 (a b c d e f g h : Nat) (R B : List Nat) (hl : B.length = R.length) : splice (a :: b :: c :: d :: e :: f :: g :: h :: R) 8 B = a :: b :: c :: d :: e :: f :: g :: h :: B := by
  unfold splice
  simp [hl]
  omega

theorem But.boxed {g n : Nat} {w w' : World} (h : But g w w') (hn : n < w.heap.size) (hne : n ≠ g) {o : Obj} (ho : w.heap[n]? = some o) : w'.heap[n]? = some o := (h.block n hn hne).trans ho

theorem But.alloc {g : Nat} {w w' : World} (h : But g w w') (o : Obj) : But g w (w'.alloc o) := by
  have hb := (Below.refl w'.heap.size w').alloc (Nat.le_refl _) o
  exact ⟨hb.os.trans h.os, hb.tape.trans h.tape, hb.output.trans h.output, Nat.le_trans h.size hb.size, fun i hi hn => (hb.block i (Nat.lt_of_lt_of_le hi h.size)).trans (h.block i hi hn)⟩

theorem lay_any (m : Im.Ct) (vb : Value) (w : World) (hok : m.Ok) (hvb : SeesB w vb m.B) (hl : m.B.length ≤ 65507) :
    Calls Tryd.prog 37 #[.agg (ctCells m vb)] w fun e w' => ∃ g k, e = .returned (.slice (some ⟨g, 0, none⟩) k k) ∧ SeesB w' (.slice (some ⟨g, 0, none⟩) k k) (Im.laid m) ∧ Blk w' g (Im.laid m) ∧ w.heap.size ≤ g ∧ Below w.heap.size w w' := by
  obtain ⟨w1, hw1⟩ : ∃ w1, w1 = w.alloc (.cells (ctCells m vb) 29) := ⟨_, rfl⟩
  have hb1 : Below w.heap.size w w1 := by rw [hw1]; exact (Below.refl _ _).alloc (Nat.le_refl _) _
  have hs1 : w1.heap.size = w.heap.size + 1 := by rw [hw1]; simp
  have hk1 : w1.heap[w.heap.size]? = some (.cells (ctCells m vb) 29) := by rw [hw1]; exact heap_alloc_new w _
  have HVB := hid hvb
  obtain ⟨ab, nb, capb, rfl, HNB, hnb1, hnb2⟩ := hvb.shape
  unfold maxLen at hnb2
  have hnb : nb ≤ 65507 := by have := HNB.out; omega
  obtain ⟨g, hg⟩ : ∃ g, g = w1.heap.size := ⟨_, rfl⟩
  obtain ⟨tot, ht⟩ : ∃ tot, tot = 8 + nb := ⟨_, rfl⟩
  have hmk : ∀ u : World, (Instr.makeSlice 26 (.int .i64 (8 + (nb : Int))) (.int .i64 (8 + (nb : Int)))).run Tryd.prog u = .ok (.slice (some ⟨u.heap.size, 0, none⟩) tot tot) (u.alloc (.cells (madeCells #[.int .u8 0] tot) 5)) := by
    rw [show (8 : Int) + (nb : Int) = (tot : Int) by omega]
    exact make_bytes tot (by omega)
  obtain ⟨w2, hw2⟩ : ∃ w2, w2 = w1.alloc (.cells (madeCells #[.int .u8 0] tot) 5) := ⟨_, rfl⟩
  obtain ⟨R, hR⟩ : ∃ R, R = List.replicate nb 0 := ⟨_, rfl⟩
  have hB2 : Blk w2 g (0 :: 0 :: 0 :: 0 :: 0 :: 0 :: 0 :: 0 :: R) := by
    have := made_blk w1 tot
    rw [← hw2, ← hg, ht, ← List.replicate_append_replicate, ← hR] at this
    exact this
  have hb2 : Below w1.heap.size w1 w2 := by rw [hw2]; exact (Below.refl _ _).alloc (Nat.le_refl _) _
  have hs2 : w2.heap.size = w1.heap.size + 1 := by rw [hw2]; simp
  have HK : Hid (∀ u, But g w2 u → u.heap[w.heap.size]? = some (.cells (ctCells m (.slice ab nb capb)) 29)) := fun u hu => hu.boxed (by omega) (by omega) ((hb2.block _ (by omega)).trans hk1)
  have HBW : Hid (∀ u, But g w2 u → Below w.heap.size w u) := fun u hu => by
    have h0 := hb1.trans (hb2.mono hb1.size)
    exact hu.below h0 h0.size (by omega)
  have hRl : R.length = nb := by rw [hR, List.length_replicate]
  have HRL := hid hRl
  have c0 := hB2.cell 0 (by simp)
  have c1 := hB2.cell 1 (by simp)
  have f0 := hB2.free 0
  have f1 := hB2.free 1
  obtain ⟨d0, d1, d2, d3⟩ := ct_at (HK.out _ (But.refl _ _))
  have e3 := (ct_at hk1).2.2.2
  obtain ⟨ht1, hc1, hr1⟩ := hok
  have hne : ¬ w.heap.size = g := by omega
  have hne' : ¬ g = w.heap.size := by omega
  have b0 : (0 : Int) < (tot : Int) := by omega
  have b1 : (1 : Int) < (tot : Int) := by omega
  have HT : Hid ((8 : Int) + (nb : Int) = (tot : Int)) := by unfold Hid; omega
  have hB3 : Blk ((w2.setCell ⟨g, 0, none⟩ (.int .u8 (m.t : Int))).setCell ⟨g, 1, none⟩ (.int .u8 (m.c : Int))) g (m.t :: m.c :: 0 :: 0 :: 0 :: 0 :: 0 :: 0 :: R) := (hB2.set 0 m.t).set 1 m.c
  have hu3 : But g w2 ((w2.setCell ⟨g, 0, none⟩ (.int .u8 (m.t : Int))).setCell ⟨g, 1, none⟩ (.int .u8 (m.c : Int))) := (But.set _ _ _ _).trans (But.set _ _ _ _)
  have HB3 := hid (And.intro hB3 hu3)
  have HW1 := hid hw1
  have HW2 := hid hw2
  have HG := hid hg
  have HTT := hid ht
  have hOK : m.Ok := ⟨ht1, hc1, hr1⟩
  have HOK := hid hOK
  have HB2X := hid (And.intro hb2 hb1)
  have HS := hid (And.intro hs1 hs2)
  have htl : tot ≤ 65515 := by omega
  have ht8 : 8 ≤ tot := by omega
  have HLEN : Hid (m.B.length = nb) := HNB.out.symm
  have k4 : ∀ u : World, (Instr.sliceAt 26 (.slice (some ⟨g, 0, none⟩) tot tot) (some (.int .i64 4)) none none).run Tryd.prog u = .ok (.slice (some ⟨g, 4, none⟩) (tot - 4) (tot - 4)) u := fun u => by
    have := cut_at g 0 tot tot 4 4 rfl (by omega) (by omega) u
    rwa [Nat.zero_add] at this
  have k2 : ∀ u : World, (Instr.sliceAt 26 (.slice (some ⟨g, 0, none⟩) tot tot) (some (.int .i64 2)) none none).run Tryd.prog u = .ok (.slice (some ⟨g, 2, none⟩) (tot - 2) (tot - 2)) u := fun u => by
    have := cut_at g 0 tot tot 2 2 rfl (by omega) (by omega) u
    rwa [Nat.zero_add] at this
  obtain ⟨a8, HA8, k8⟩ := cut_end g tot 8 8 rfl (by omega)
  clear hw1 hw2 hg ht hR hvb hk1 hb1 hb2 hB2 hB3 hu3 hRl hs1 hs2 hl hOK HNB
  obtain ⟨mt, mc, mr, mB⟩ := m
  simp only at *
  have HCT : Hid (ctCells ⟨mt, mc, mr, mB⟩ (.slice ab nb capb) = #[.int .u8 (mt : Int), .int .u8 (mc : Int), .int .u32 (mr : Int), .slice ab nb capb]) := rfl
  rw [HCT.out] at HW1 ⊢
  go_enter Tryd.func37, Tryd.ntmps37
  go_upto_region 1 with fail
  rw [← HW1.out]
  go_upto_region 2 with fail
  rw [← HG.out, ← HW2.out]
  go_cut [] from 17 (fun wx => Hid (Blk wx g (mt :: mc :: 0 :: 0 :: 0 :: 0 :: 0 :: 0 :: R)) ∧ But g w2 wx)
  case first =>
    go_region
    all_goals (
      go_wp2_with fail
      go_meet
      case rel => exact ⟨HB3.out.1, But.drew HB3.out.2⟩)
  case rest =>
  obtain ⟨hB3, hu3⟩ := hcut
  obtain ⟨w3, hw3⟩ : ∃ w3, w3 = wc := ⟨_, rfl⟩
  rw [← hw3] at hB3 hu3 ⊢
  clear hw3 HB3 c0 c1 f0 f1 d0 d1 d2 d3 e3
  have hg3 := hB3.out.lt
  obtain ⟨_, _, d2, _⟩ := ct_at (HK.out _ hu3)
  have HC3 := hid (iwrite32_any g 4 (tot - 4) (tot - 4) mr _ w3.drew hB3.out (by omega) (Nat.le_refl _) (by simp; have := HRL.out; have := HTT.out; omega) hr1)
  go_upto_region 3 with fail
  go_cut [] from 22 (fun wx => Hid (Blk wx g (mt :: mc :: 0 :: 0 :: mr / 65536 / 256 :: mr / 65536 % 256 :: mr % 65536 / 256 :: mr % 65536 % 256 :: R)) ∧ But g w2 wx)
  case first =>
    go_region_with (first | (go_at_call 58; refine HC3.out.mono ?_; rintro _ w4 ⟨rfl, hB4, hu4⟩) | fail)
    all_goals (
      go_wp2_with fail
      go_meet
      case rel => exact ⟨hB4, hu3.trans ((But.drew (But.refl _ _)).trans hu4)⟩)
  case rest =>
  obtain ⟨HB4, hu4⟩ := hcut
  obtain ⟨w4, hw4⟩ : ∃ w4, w4 = wc := ⟨_, rfl⟩
  rw [← hw4] at HB4 hu4 ⊢
  clear hw4 HC3 d2 hB3 hu3
  obtain ⟨_, _, _, d3⟩ := ct_at (HK.out _ hu4)
  have hb4 : Below g w1 w4 := hu4.below (by rw [HG.out]; exact HB2X.out.1) (by have := HS.out; have := HG.out; omega) (Nat.le_refl _)
  obtain ⟨X4, hX4⟩ : ∃ X4, X4 = bs (mt :: mc :: 0 :: 0 :: mr / 65536 / 256 :: mr / 65536 % 256 :: mr % 65536 / 256 :: mr % 65536 % 256 :: R) := ⟨_, rfl⟩
  obtain ⟨O4, hO4⟩ : ∃ O4, O4 = bs mB := ⟨_, rfl⟩
  have HG4 : Hid (w4.heap[g]? = some (.cells X4.toArray 5 (0, 0))) := by unfold Hid; rw [hX4]; exact HB4.out
  have HX4 := hid hX4
  have HO4 := hid hO4
  have HLO4 : Hid (O4.length = nb) := by unfold Hid; rw [hO4, bs, List.length_map, HLEN.out]
  have HLX4 : Hid (X4.length = tot) := by unfold Hid; rw [hX4, bs, List.length_map]; simp; have := HRL.out; have := HTT.out; omega
  have HMN : Hid (O4.length = Nat.min nb (tot - 8)) := by unfold Hid; rw [HLO4.out]; have := HTT.out; show nb = min nb (tot - 8); omega
  have HPS : Hid (0 < O4.length → a8 = some ⟨g, 8, none⟩ ∧ ∃ ad, ab = some ad ∧ ∀ j v, O4[j]? = some v → w4.drew.cell? (ad.add j) = some v) := fun hp => by
    refine ⟨HA8.out (by have := HLO4.out; have := HTT.out; omega), ?_⟩
    rw [HO4.out] at hp ⊢
    exact (HVB.out.below (HBW.out _ (But.drew hu4))).src hp
  have HFT : Hid (8 + O4.length ≤ X4.length) := by unfold Hid; rw [HLO4.out, HLX4.out]; have := HTT.out; omega
  have HO1 : Hid (∀ v ∈ O4, v.oneCell' = true) := fun v hv => by
    rw [HO4.out] at hv
    obtain ⟨y, _, rfl⟩ := List.mem_map.1 hv
    rfl
  have HBD4 := hid (below_drew hb4)
  clear hX4 hO4 HB4
  go_upto_region 4 with fail
  go_cut [] from 27 (fun wx => Hid (wx.heap[g]? = some (.cells (splice X4 8 O4).toArray 5 (0, 0))) ∧ Below g w1 wx)
  case first =>
    go_region_law (first
      | (refine step_copy_splice rfl (.tmp 23) (.tmp 25) 26 26 rfl 5 Tryd.underlying26 size5 a8 ab (tot - 8) (tot - 8) nb capb rfl rfl g 8 X4 5 HG4.out O4 HMN.out HPS.out HFT.out HO1.out g w1 HBD4.out (Nat.le_refl _) ?_; intro w5 hg5 hb5)
      | fail)
    all_goals (
      go_wp2_with fail
      go_meet
      case rel => exact ⟨hg5, hb5⟩)
  case rest =>
  obtain ⟨HG5, hb5⟩ := hcut
  obtain ⟨w5, hw5⟩ : ∃ w5, w5 = wc := ⟨_, rfl⟩
  rw [← hw5] at HG5 hb5 ⊢
  clear hw5 d3 HG4 HMN HPS HFT HO1 HBD4 hb4 hu4
  have HB5 : Hid (Blk w5 g (Im.msg ⟨mt, mc, mr, mB⟩ 0)) := by
    unfold Hid
    have e : splice X4 8 O4 = bs (Im.msg ⟨mt, mc, mr, mB⟩ 0) := by
      rw [HX4.out, HO4.out, bs_splice, splice8 _ _ _ _ _ _ _ _ _ _ (by rw [HRL.out, HLEN.out])]
      rfl
    have := HG5.out
    rw [e] at this
    exact this
  have hlen : (Im.msg ⟨mt, mc, mr, mB⟩ 0).length = tot := by
    rw [Im.msg_len]
    have := HTT.out; have := HLEN.out
    simp only at *
    omega
  have hbytes : ∀ x ∈ Im.msg ⟨mt, mc, mr, mB⟩ 0, x < 256 := Im.msg_bytes HOK.out HVB.out.bytes (by decide)
  have s1 : SeesB w5.drew (.slice (some ⟨g, 0, none⟩) tot tot) (Im.msg ⟨mt, mc, mr, mB⟩ 0) := sees_blk (show w5.drew.heap[g]? = _ from HB5.out) hlen (by omega) hbytes
  have HSM0 := sum_code _ _ _ (seesBB_one (w := w5.drew) rfl _ _ s1 26) (by simp; omega)
  rw [show [Im.msg ⟨mt, mc, mr, mB⟩ 0].flatten = Im.msg ⟨mt, mc, mr, mB⟩ 0 by simp] at HSM0
  have HLD : Hid (Im.laid ⟨mt, mc, mr, mB⟩ = ((Im.msg ⟨mt, mc, mr, mB⟩ 0).set 2 (M.csum (Im.msg ⟨mt, mc, mr, mB⟩ 0) / 256)).set (2 + 1) (M.csum (Im.msg ⟨mt, mc, mr, mB⟩ 0) % 256)) := rfl
  have HLB : Hid (∀ x ∈ Im.laid ⟨mt, mc, mr, mB⟩, x < 256) := Im.laid_bytes HOK.out HVB.out.bytes
  have HLL : Hid ((Im.laid ⟨mt, mc, mr, mB⟩).length = tot) := by
    unfold Hid; rw [Im.laid_len]
    have := HTT.out; have := HLEN.out
    simp only at *
    omega
  generalize hLDE : Im.laid ⟨mt, mc, mr, mB⟩ = LD at *
  have HLDE := hid hLDE
  clear hLDE
  have hlt := M.csum_lt (Im.msg ⟨mt, mc, mr, mB⟩ 0)
  generalize M.csum (Im.msg ⟨mt, mc, mr, mB⟩ 0) = s at *
  generalize Im.msg ⟨mt, mc, mr, mB⟩ 0 = X5 at *
  have hg5 := HB5.out.lt
  have HC : Hid (∀ u, Below w5.heap.size w5 u → Calls Tryd.prog 59 #[.slice (some ⟨g, 2, none⟩) (tot - 2) (tot - 2), .int .u16 (s : Int)] u fun e w' => e = .returned (.tuple #[]) ∧ Blk w' g LD ∧ But g u w') := fun u hu => by
    rw [HLD.out]
    exact iwrite16_any g 2 (tot - 2) (tot - 2) s X5 u ((hu.block g hg5).trans HB5.out) (by omega) (by omega) hlt
  have HSM : Hid (Calls Tryd.prog 33 #[.slice (some ⟨w5.heap.size, 0, none⟩) 1 1] (w5.drew.alloc (.cells #[.slice (some ⟨g, 0, none⟩) tot tot] 26)) fun e w' => e = .returned (.int .u16 (s : Int)) ∧ Below w5.heap.size w5 w') := by
    refine HSM0.mono ?_
    rintro e w' ⟨rfl, hb⟩
    have hbA : Below w5.heap.size w5 (w5.drew.alloc (.cells #[.slice (some ⟨g, 0, none⟩) tot tot] 26)) := (below_drew (Below.refl w5.heap.size w5)).alloc (Nat.le_refl _) _
    exact ⟨rfl, hbA.trans (hb.mono hbA.size)⟩
  have HB5 := hid hb5
  clear s1 HSM0 hlen hbytes HG5 hb5 k4 k8 HX4 HO4 HLX4 HLO4
  go_upto_region 5 with fail
  go_region_with (first | (go_at_call 33; refine HSM.out.mono ?_; rintro _ w6 ⟨rfl, hb6⟩) | (go_at_call 59; refine (HC.out _ hb6).mono ?_; rintro _ w7 ⟨rfl, hB7, hu7⟩) | fail)
  all_goals (
    go_wp2_with fail
    go_ret
    have hb7 : Below g w1 w7 := hu7.below (HB5.out.trans (hb6.mono (by omega))) (by have := hb6.size; omega) (Nat.le_refl _)
    rw [HLDE.out]
    exact ⟨g, tot, rfl, sees_blk hB7 HLL.out (by omega) HLB.out, hB7, by have := HG.out; have := HS.out; omega, HB2X.out.2.trans (hb7.mono (by have := HG.out; have := HS.out; omega))⟩)
end Go.Proofs.YtcboenmmkaochabDoor.N

namespace Go.Proofs.YtcboenmmkaochabDoor.N
open Go.ChangeShapes Go.WideShapes Go.ChangeAt Go.RowKit
set_option maxHeartbeats 2000000
set_option maxRecDepth 100000

theorem ibuild_any (m : Im.Ct) (vb : Value) (w : World) (hok : m.Ok) (hvb : SeesB w vb m.B) :
    Calls Tryd.prog 18 #[.agg (ctCells m vb)] w fun e w' => ∃ ao n cap, e = .returned (.tuple #[.slice ao n cap, .int .i64 (Im.bdE m)]) ∧ SeesB w' (.slice ao n cap) (Im.bdL m) ∧ (Im.bdE m = 0 → ∃ g, ao = some ⟨g, 0, none⟩ ∧ cap = n ∧ Blk w' g (Im.bdL m) ∧ w.heap.size ≤ g) ∧ Below w.heap.size w w' := by
  obtain ⟨w1, hw1⟩ : ∃ w1, w1 = w.alloc (.cells (ctCells m vb) 29) := ⟨_, rfl⟩
  have hb1 : Below w.heap.size w w1 := by rw [hw1]; exact (Below.refl _ _).alloc (Nat.le_refl _) _
  have hk1 : w1.heap[w.heap.size]? = some (.cells (ctCells m vb) 29) := by rw [hw1]; exact heap_alloc_new w _
  have HVB := hid hvb
  obtain ⟨ab, nb, capb, rfl, HNB, hnb1, hnb2⟩ := hvb.shape
  unfold maxLen at hnb2
  obtain ⟨d0, d1, d2, d3⟩ := ct_at hk1
  have HOK := hid hok
  have HW1 := hid hw1
  have HB1 := hid hb1
  have HLD : Hid ((Instr.loadAt 29 (.pointer (some ⟨w.heap.size, 0, none⟩))).run Tryd.prog w1 = .ok (.agg (ctCells m (.slice ab nb capb))) w1) := by
    refine run_loadAt_mid w1 w.heap.size 0 29 (ctCells m (.slice ab nb capb)).toList (.struct _) (fun j v hv => ?_) Tryd.underlying29 rfl (by rw [show (Tryd.prog.info? 29).map (·.size) = some 4 from by kernel_rfl]; rfl)
    rw [Nat.zero_add, cell_of_row _ _ _ _ _ _ hk1, ← hv, Array.getElem?_toList]
  by_cases hl : m.B.length ≤ 65507
  · have HLAY := hid (lay_any m (.slice ab nb capb) w1 hok (hvb.below hb1) hl)
    have HE : Hid (Im.bdE m = 0 ∧ Im.bdL m = Im.laid m) := ⟨by unfold Im.bdE; rw [if_neg (by omega)], by unfold Im.bdL; rw [if_neg (by omega)]⟩
    have hnb : nb ≤ 65507 := by have := HNB.out; omega
    clear hw1 hb1 hk1 hvb d0 d1 d2 hl hok HNB
    generalize ctCells m (.slice ab nb capb) = pk at *
    go_enter Tryd.func18, Tryd.ntmps18
    go_upto_region 1 with fail
    rw [← HW1.out]
    go_wp2_with (first | (refine wpList_ld 29 ⟨w.heap.size, 0, none⟩ _ rfl rfl HLD.out rfl ?_) | fail)
    refine HLAY.out.mono ?_
    rintro _ w2 ⟨g, k, rfl, hs2, hB2, hg2, hb2⟩
    go_wp2_with fail
    refine bodyPost_ret (results_tmp2 Tryd.results18 _ _ _) rfl ?_
    rw [HE.out.1, HE.out.2]
    exact ⟨_, _, _, rfl, hs2, fun _ => ⟨g, rfl, rfl, hB2, by have := HB1.out.size; omega⟩, HB1.out.trans (hb2.mono HB1.out.size)⟩
  · have HE : Hid (Im.bdE m = 37 ∧ Im.bdL m = []) := ⟨by unfold Im.bdE; rw [if_pos (by omega)], by unfold Im.bdL; rw [if_pos (by omega)]⟩
    have hnb : ¬ nb ≤ 65507 := by have := HNB.out; omega
    clear hw1 hb1 hk1 hvb d0 d1 d2 hl hok HNB HLD
    generalize ctCells m (.slice ab nb capb) = pk at *
    go_enter Tryd.func18, Tryd.ntmps18
    go_upto_region 1 with fail
    rw [← HW1.out]
    go_wp2_with fail
    refine bodyPost_ret (results_tmp2 Tryd.results18 _ _ _) rfl ?_
    rw [HE.out.1, HE.out.2]
    exact ⟨_, _, _, rfl, sees_nil _, (fun h => absurd h (by decide)), HB1.out⟩
end Go.Proofs.YtcboenmmkaochabDoor.N

namespace Go.Proofs.YtcboenmmkaochabDoor.N
open Go.ChangeShapes Go.WideShapes Go.ChangeAt Go.RowKit
set_option maxHeartbeats 2000000
set_option maxRecDepth 100000

theorem countP_point {L : List Nat} (hn : L.Nodup) {i : Nat} (hi : i ∈ L) {p q : Nat → Bool} (hpi : p i = true) (hqi : q i = false) (hne : ∀ j ∈ L, j ≠ i → q j = p j) : L.countP q + 1 = L.countP p := by
  induction L with
  | nil => cases hi
  | cons x L ih =>
    obtain ⟨hx0, hn'⟩ := List.nodup_cons.1 hn
    by_cases hx : x = i
    · subst hx
      have : L.countP q = L.countP p := List.countP_congr (fun j hj => by rw [hne j (List.mem_cons_of_mem _ hj) (fun e => hx0 (e ▸ hj))])
      rw [List.countP_cons, List.countP_cons, this, hpi, hqi]
      simp
    · have := ih hn' (by rcases List.mem_cons.1 hi with h | h; exact absurd h.symm hx; exact h) (fun j hj => hne j (List.mem_cons_of_mem _ hj))
      rw [List.countP_cons, List.countP_cons, hne x (List.mem_cons_self ..) hx]
      omega

def puts (a0 : Act) (dst : Nat → Tmp) (vs : Nat → Value) (p : Nat → Bool) (L : List Nat) : Act := L.foldr (fun i a => if p i then a.put (some (dst i)) (vs i) else a) a0

theorem puts_congr {a0 : Act} {dst : Nat → Tmp} {vs vs' : Nat → Value} {p p' : Nat → Bool} {L : List Nat} (h : ∀ i ∈ L, p' i = p i ∧ vs' i = vs i) : puts a0 dst vs' p' L = puts a0 dst vs p L := by
  induction L with
  | nil => rfl
  | cons x L ih =>
    have h1 := h x (List.mem_cons_self ..)
    have h2 := ih (fun i hi => h i (List.mem_cons_of_mem _ hi))
    simp only [puts, List.foldr_cons] at h2 ⊢
    rw [h2, h1.1, h1.2]

theorem put_comm (a : Act) {s t : Tmp} (h : s ≠ t) (x y : Value) : (a.put (some s) x).put (some t) y = (a.put (some t) y).put (some s) x := by
  simp only [Act.put]
  rw [Array.setIfInBounds_comm _ _ h]

theorem puts_set {a0 : Act} {dst : Nat → Tmp} {vs vs' : Nat → Value} {p p' : Nat → Bool} {i : Nat} {v : Value} : ∀ {L : List Nat}, L.Nodup → i ∈ L → p i = false → p' i = true → vs' i = v → (∀ j ∈ L, j ≠ i → p' j = p j ∧ vs' j = vs j ∧ dst j ≠ dst i) →
    (puts a0 dst vs p L).put (some (dst i)) v = puts a0 dst vs' p' L
  | [], _, hi, _, _, _, _ => by cases hi
  | x :: L, hn, hi, h1, h2, h3, h => by
    obtain ⟨hx0, hn'⟩ := List.nodup_cons.1 hn
    by_cases hx : x = i
    · subst hx
      have hc : puts a0 dst vs' p' L = puts a0 dst vs p L := puts_congr (fun j hj => by have := h j (List.mem_cons_of_mem _ hj) (fun e => hx0 (e ▸ hj)); exact ⟨this.1, this.2.1⟩)
      simp only [puts, List.foldr_cons] at hc ⊢
      rw [h1, h2, hc, h3]
      rfl
    · have ih := puts_set (a0 := a0) (dst := dst) (v := v) hn' (by rcases List.mem_cons.1 hi with e | e; exact absurd e.symm hx; exact e) h1 h2 h3 (fun j hj => h j (List.mem_cons_of_mem _ hj))
      have hh := h x (List.mem_cons_self ..) hx
      simp only [puts, List.foldr_cons] at ih ⊢
      rw [hh.1, hh.2.1, ← ih]
      cases p x with
      | true => simp only [if_true]; exact put_comm _ hh.2.2 _ _
      | false => rfl

theorem puts_size {a0 : Act} {dst : Nat → Tmp} {vs : Nat → Value} {p : Nat → Bool} {L : List Nat} : (puts a0 dst vs p L).tmps.size = a0.tmps.size := by
  induction L with
  | nil => rfl
  | cons x L ih =>
    simp only [puts, List.foldr_cons] at ih ⊢
    split
    · simp only [Act.put, Array.size_setIfInBounds]; exact ih
    · exact ih

theorem eval_put_ne (a : Act) {s t : Tmp} (h : s ≠ t) (v : Value) : (a.put (some t) v).eval (.tmp s) = a.eval (.tmp s) := by
  simp only [Act.put, Act.eval, Array.getD_eq_getD_getElem?]
  rw [Array.getElem?_setIfInBounds_ne (Ne.symm h)]

theorem eval_put_eq (a : Act) {t : Tmp} (h : t < a.tmps.size) (v : Value) : (a.put (some t) v).eval (.tmp t) = v := by
  simp [Act.put, Act.eval, h]

theorem puts_old {a0 : Act} {dst : Nat → Tmp} {vs : Nat → Value} {p : Nat → Bool} {s : Tmp} {L : List Nat} (h : ∀ j ∈ L, dst j ≠ s) : (puts a0 dst vs p L).eval (.tmp s) = a0.eval (.tmp s) := by
  induction L with
  | nil => rfl
  | cons x L ih =>
    have ih := ih (fun j hj => h j (List.mem_cons_of_mem _ hj))
    simp only [puts, List.foldr_cons] at ih ⊢
    split
    · rw [eval_put_ne _ (Ne.symm (h x (List.mem_cons_self ..)))]; exact ih
    · exact ih

theorem puts_at {a0 : Act} {dst : Nat → Tmp} {vs : Nat → Value} {p : Nat → Bool} {i : Nat} (hsz : dst i < a0.tmps.size) (hp : p i = true) : ∀ {L : List Nat}, i ∈ L → (∀ j ∈ L, j ≠ i → dst j ≠ dst i) → (puts a0 dst vs p L).eval (.tmp (dst i)) = vs i
  | [], hi, _ => by cases hi
  | x :: L, hi, h => by
    by_cases hx : x = i
    · subst hx
      have : dst x < (puts a0 dst vs p L).tmps.size := by rw [puts_size]; exact hsz
      simp only [puts, List.foldr_cons, hp, if_true] at this ⊢
      exact eval_put_eq _ this _
    · have ih := puts_at (vs := vs) hsz hp (L := L) (by rcases List.mem_cons.1 hi with e | e; exact absurd e.symm hx; exact e) (fun j hj => h j (List.mem_cons_of_mem _ hj))
      simp only [puts, List.foldr_cons] at ih ⊢
      split
      · rw [eval_put_ne _ (Ne.symm (h x (List.mem_cons_self ..) hx))]; exact ih
      · exact ih

def canon (m n : Nat) : Array Bool := ((List.range m).map fun i => decide (i < n)).toArray

def monoB (ops : Array Oper) (n : Nat) (dst : Nat → Tmp) (size : Nat) : Bool :=
  decide (n < ops.size) && Region.sinkB .any ops n && Region.chainB .any ops n && Region.seqB .any ops (ops.size - n) n (canon ops.size n) &&
  (List.range n).all (fun i => decide (dst i < size) && ((ops[i]?).map fun o => o.guard.isNone && decide (o.dst = some (dst i)) && o.after.all fun e => decide (e.on < i)).getD false && (List.range n).all fun j => decide (j = i) || decide (dst j ≠ dst i))

theorem wp_region_facts {P : Program} {id : Nat} {Q : Exit → Act → World → Prop} {a0 : Act} {W : World} {l : List Oper} (n : Nat) (dst : Nat → Tmp) (F : Nat → Value → World → Prop) (I : World → Prop) (R : Nat → World → World → Prop) (hm : P.follows .mixedOrders = true) (hB : monoB l.toArray n dst a0.tmps.size = true)
    (hI : I { W with drawn := W.drawn + 1 })
    (hF : ∀ i j v w w', i ≠ j → F i v w → I w → R j w w' → F i v w')
    (hstep : ∀ i o, i < n → l[i]? = some o → ∀ (a : Act) (w : World) (vs : Nat → Value), I w → (∀ s, (∀ j, j < n → dst j ≠ s) → a.eval (.tmp s) = a0.eval (.tmp s)) →
      (∀ e ∈ o.after, Region.binds .any e = true → e.on < n → a.eval (.tmp (dst e.on)) = vs e.on ∧ F e.on (vs e.on) w) →
      o.wp P a w (fun a' w' => ∃ v, a' = a.put (some (dst i)) v ∧ F i v w' ∧ I w' ∧ R i w w') Q)
    (hend : ∀ (vs : Nat → Value) (w : World), I w → (∀ i, i < n → F i (vs i) w) → wpList P l.toArray Q (l.drop n) (puts a0 dst vs (fun _ => true) (List.range n)) w) :
    (Code.region id l.toArray true).wp P Q a0 W := by
  simp only [monoB, Bool.and_eq_true, decide_eq_true_eq, List.all_eq_true, List.mem_range] at hB
  obtain ⟨⟨⟨⟨hn, hs⟩, hc⟩, hseq⟩, hall⟩ := hB
  have hinj : ∀ i, i < n → ∀ j, j < n → j ≠ i → dst j ≠ dst i := fun i hi j hj hne => by
    have := (hall i hi).2 j hj
    simp only [Bool.or_eq_true, decide_eq_true_eq] at this
    exact this.resolve_left hne
  have hop : ∀ i o, i < n → l.toArray[i]? = some o → (o.guard = none ∧ o.dst = some (dst i)) ∧ ∀ e ∈ o.after, e.on < i := fun i o hi ho => by
    have := (hall i hi).1.2
    rw [ho] at this
    simp only [Option.map_some, Option.getD_some, Bool.and_eq_true, Option.isNone_iff_eq_none, decide_eq_true_eq, Array.all_eq_true_iff_forall_mem] at this
    exact this
  refine wp_region_any hm ?_
  have main : ∀ (f : Nat) (listed : Array Bool) (vs : Nat → Value) (w : World), (List.range n).countP (fun j => !listed.getD j false) = f → HeadInv .any l.toArray n listed →
      I w → (∀ i, i < n → listed.getD i false = true → F i (vs i) w) →
      wpAny P .any l.toArray Q (f + (l.toArray.size - n)) listed (puts a0 dst vs (fun i => listed.getD i false) (List.range n)) w := by
    intro f
    induction f with
    | zero =>
      intro listed vs w hcnt inv hb hf
      have hall2 : ∀ i, i < n → listed.getD i false = true := fun i hi => by
        have := List.countP_eq_zero.1 hcnt i (List.mem_range.2 hi)
        simpa using this
      have hcan : listed = canon l.toArray.size n := by
        apply Array.ext
        · rw [inv.size]; simp [canon]
        · intro i h1 h2
          simp only [canon, List.getElem_toArray, List.getElem_map, List.getElem_range]
          by_cases hi : i < n
          · have := hall2 i hi
            simpa [h1, hi] using this
          · have := inv.tail i (by omega) (by rw [inv.size] at h1; exact h1)
            simpa [h1, hi] using this
      have he : puts a0 dst vs (fun i => listed.getD i false) (List.range n) = puts a0 dst vs (fun _ => true) (List.range n) := puts_congr (fun i hi => ⟨hall2 i (List.mem_range.1 hi), rfl⟩)
      rw [he, hcan, Nat.zero_add]
      have hdl : (l.drop n).length = l.toArray.size - n := by simp
      have := wpAny_of_seq (P := P) (ops := l.toArray) (md := .any) (Q' := Q) (l.drop n) n (canon l.toArray.size n) _ w (fun j => by simp [List.getElem?_drop]) (by rw [hdl]; exact hseq) (hend vs w hb (fun i hi => hf i hi (hall2 i hi)))
      rwa [hdl] at this
    | succ f ih =>
      intro listed vs w hcnt inv hb hf
      obtain ⟨i0, hi0, hu0⟩ : ∃ i, i < n ∧ listed.getD i false = false := by
        have hpos : 0 < (List.range n).countP (fun j => !listed.getD j false) := by omega
        obtain ⟨i, hi, hp⟩ := List.countP_pos_iff.1 hpos
        exact ⟨i, List.mem_range.1 hi, by simpa using hp⟩
      have hi0s : i0 < listed.size := by rw [inv.size]; omega
      have hwait := tail_waits hs hc hn inv _ i0 rfl hi0 (getD_in hi0s hu0)
      rw [show f + 1 + (l.toArray.size - n) = (f + (l.toArray.size - n)) + 1 by omega]
      refine ⟨fun h0 => ?_, fun i hi => ?_⟩
      · -- something is ready: the least that is not listed
        exfalso
        have hex : ∃ k, k < n ∧ listed.getD k false = false ∧ ∀ j, j < k → listed.getD j false = true := by
          have : ∀ m, (∃ j, j < m ∧ listed.getD j false = false) → ∃ k, k < m ∧ listed.getD k false = false ∧ ∀ j, j < k → listed.getD j false = true := by
            intro m
            induction m with
            | zero => rintro ⟨j, hj, _⟩; omega
            | succ m ihm =>
              rintro ⟨j, hj, hjf⟩
              by_cases hex : ∃ j, j < m ∧ listed.getD j false = false
              · obtain ⟨k, hk, h1, h2⟩ := ihm hex
                exact ⟨k, by omega, h1, h2⟩
              · refine ⟨m, by omega, ?_, fun j' hj' => ?_⟩
                · have : j = m := by
                    rcases Nat.lt_or_ge j m with h | h
                    · exact absurd ⟨j, h, hjf⟩ hex
                    · omega
                  rw [← this]; exact hjf
                · cases hq : listed.getD j' false with
                  | true => rfl
                  | false => exact absurd ⟨j', hj', hq⟩ hex
          exact this n ⟨i0, hi0, hu0⟩
        obtain ⟨k, hk, hku, hkl⟩ := hex
        have hks : k < l.toArray.size := by omega
        have hr : k ∈ Region.ready .any l.toArray listed := mem_ready.2 ⟨getD_in (by rw [inv.size]; exact hks) hku, _, Array.getElem?_eq_getElem hks, fun e he _ => hkl e.on ((hop k _ hk (Array.getElem?_eq_getElem hks)).2 e he)⟩
        rw [h0] at hr
        cases hr
      · have hin : i < n := by
          rcases Nat.lt_or_ge i n with h | h
          · exact h
          · exact absurd hi (hwait i h)
        obtain ⟨hun, o, ho, hdep⟩ := mem_ready.1 hi
        obtain ⟨⟨hg, hd⟩, _⟩ := hop i o hin ho
        have hiu := getD_both hun
        have his : i < listed.size := by rw [inv.size]; omega
        unfold wpOp
        simp only [ho, Region.wanted, hg, if_true]
        refine .inl ?_
        have H := hstep i o hin (by simpa using ho) (puts a0 dst vs (fun i => listed.getD i false) (List.range n)) w vs hb (fun s hs' => puts_old (fun j hj => hs' j (List.mem_range.1 hj))) (fun e he hbi hen => ⟨puts_at (by have := (hall e.on hen).1.1; simpa using this) (hdep e he hbi) (List.mem_range.2 hen) (fun j hj hne => hinj e.on hen j (List.mem_range.1 hj) hne), hf e.on hen (hdep e he hbi)⟩)
        refine Oper.wp_mono (fun a' w' ⟨v, ha', hfv, hiw, hbw⟩ => ?_) H
        rw [ha', puts_set (vs' := fun j => if j = i then v else vs j) (p' := fun j => (listed.setIfInBounds i true).getD j false) (List.nodup_range) (List.mem_range.2 hin) hiu (by simp [his]) (by simp) (fun j hj hne => ⟨getD_set_ne false (Ne.symm hne), by simp [hne], hinj i hin j (List.mem_range.1 hj) hne⟩)]
        refine ih _ _ w' ?_ (inv.set hi hin) hiw (fun j hj hlj => ?_)
        · have := countP_point (L := List.range n) List.nodup_range (List.mem_range.2 hin) (p := fun j => !listed.getD j false) (q := fun j => !(listed.setIfInBounds i true).getD j false) (by simp only [hiu]; rfl) (by simp [his]) (fun j _ hne => by simp only [getD_set_ne false (Ne.symm hne)])
          omega
        · by_cases hji : j = i
          · subst hji; simpa using hfv
          · simp only [hji, if_false]
            rw [getD_set_ne false (Ne.symm hji)] at hlj
            exact hF j i _ w w' hji (hf j hj hlj) hb hbw
  have inv0 : HeadInv .any l.toArray n (Array.replicate l.toArray.size false) :=
    ⟨by simp, fun j oj _ hl => (by rw [getD_replicate_false] at hl; cases hl), fun t _ ht => getD_in (by simpa using ht) (getD_replicate_false _ _)⟩
  have hcnt : (List.range n).countP (fun j => !(Array.replicate l.toArray.size false).getD j false) = n := by
    rw [List.countP_eq_length.2 (fun j _ => by rw [getD_replicate_false]; rfl), List.length_range]
  have H := main n _ (fun _ => undef) { W with drawn := W.drawn + 1 } hcnt inv0 hI (fun i _ h => by rw [getD_replicate_false] at h; cases h)
  have he : puts a0 dst (fun _ => undef) (fun i => (Array.replicate l.toArray.size false).getD i false) (List.range n) = a0 := by
    have : ∀ L : List Nat, puts a0 dst (fun _ => undef) (fun i => (Array.replicate l.toArray.size false).getD i false) L = a0 := by
      intro L
      induction L with
      | nil => rfl
      | cons x L ih =>
        simp only [puts, List.foldr_cons] at ih ⊢
        rw [getD_replicate_false, ih]
        rfl
    exact this _
  rw [he, show n + (l.toArray.size - n) = l.toArray.size by omega] at H
  exact H
theorem wp_call {P : Program} {o : Oper} {a : Act} {w : World} {K : Act → World → Prop} {Q : Exit → Act → World → Prop} (f : FuncId) (xs : Array Operand) (ts : Array TypeId) (ho : o.op = .call { callee := .value (.func f), args := xs, argTypes := ts })
    (hf : ∀ (args : Array Value) (w : World), (callFunc f args).run P w = .ok (.enter f args) w) (vs : Array Value) (hv : xs.map a.eval = vs) (h : Calls P f vs w fun e w' => ∃ v, e = .returned v ∧ K (a.put o.dst v) w') : o.wp P a w K Q := by
  unfold Oper.wp execOp
  simp [ho, resolve, invoke, Act.eval, hv, Deferred.ofValue, hf]
  exact h.mono fun e w' ⟨v, he, hk⟩ => by subst he; exact hk

theorem wp_load {P : Program} {o : Oper} {a : Act} {w : World} {K : Act → World → Prop} {Q : Exit → Act → World → Prop} (T : TypeId) (p : Addr) (x : Operand) (v : Value) (ho : o.op = .load T x) (hx : a.eval x = .pointer (some p))
    (hr : (Instr.loadAt T (.pointer (some p))).run P w = .ok v w) (h : K (a.put o.dst v) w) : o.wp P a w K Q := by
  unfold Oper.wp execOp
  simp only [ho, hx, Sem.run_bind, hr, Result.andThen_ok, Sem.run_pure]
  exact h

theorem wp_nil {P : Program} {o : Oper} {a : Act} {w : World} {K : Act → World → Prop} {Q : Exit → Act → World → Prop} (p : Addr) (x : Operand) (ho : o.op = .nilCheck x) (hx : a.eval x = .pointer (some p))
    (h : K (a.put o.dst (.pointer (some p))) w) : o.wp P a w K Q := by
  unfold Oper.wp execOp
  simp only [ho, hx]
  exact h

/-- The steps of a drawn region, one a goal. -/
def stepsOk (P : Program) (Q : Exit → Act → World → Prop) (a0 : Act) (n : Nat) (dst : Nat → Tmp) (F : Nat → Value → World → Prop) (I : World → Prop) (R : Nat → World → World → Prop) : Nat → List Oper → Prop
  | _, [] => True
  | i, o :: rest => (∀ (a : Act) (w : World) (vs : Nat → Value), I w → (∀ s, (∀ j, j < n → dst j ≠ s) → a.eval (.tmp s) = a0.eval (.tmp s)) →
      (∀ e ∈ o.after, Region.binds .any e = true → e.on < n → a.eval (.tmp (dst e.on)) = vs e.on ∧ F e.on (vs e.on) w) →
      o.wp P a w (fun a' w' => ∃ v, a' = a.put (some (dst i)) v ∧ F i v w' ∧ I w' ∧ R i w w') Q) ∧ stepsOk P Q a0 n dst F I R (i + 1) rest

theorem stepsOk.at {P : Program} {Q : Exit → Act → World → Prop} {a0 : Act} {n : Nat} {dst : Nat → Tmp} {F : Nat → Value → World → Prop} {I : World → Prop} {R : Nat → World → World → Prop} : ∀ (l : List Oper) (k : Nat), stepsOk P Q a0 n dst F I R k l → ∀ (i : Nat) (o : Oper), l[i]? = some o → ∀ (a : Act) (w : World) (vs : Nat → Value), I w → (∀ s, (∀ j, j < n → dst j ≠ s) → a.eval (.tmp s) = a0.eval (.tmp s)) →
      (∀ e ∈ o.after, Region.binds .any e = true → e.on < n → a.eval (.tmp (dst e.on)) = vs e.on ∧ F e.on (vs e.on) w) →
      o.wp P a w (fun a' w' => ∃ v, a' = a.put (some (dst (k + i))) v ∧ F (k + i) v w' ∧ I w' ∧ R (k + i) w w') Q
  | [], _, _, i, o, h => by simp at h
  | x :: l, k, hs, 0, o, h => by
    simp only [List.getElem?_cons_zero, Option.some.injEq] at h
    subst h
    exact hs.1
  | x :: l, k, hs, i + 1, o, h => by
    have := stepsOk.at l (k + 1) hs.2 i o (by simpa using h)
    rw [show k + (i + 1) = k + 1 + i by omega]
    exact this

theorem wp_region_facts' {P : Program} {id : Nat} {Q : Exit → Act → World → Prop} {a0 : Act} {W : World} {l : List Oper} (n : Nat) (dst : Nat → Tmp) (F : Nat → Value → World → Prop) (I : World → Prop) (R : Nat → World → World → Prop) (hm : P.follows .mixedOrders = true) (hB : monoB l.toArray n dst a0.tmps.size = true)
    (hI : I { W with drawn := W.drawn + 1 })
    (hF : ∀ i j v w w', i ≠ j → F i v w → I w → R j w w' → F i v w')
    (hstep : stepsOk P Q a0 n dst F I R 0 (l.take n))
    (hend : ∀ (vs : Nat → Value) (w : World), I w → (∀ i, i < n → F i (vs i) w) → wpList P l.toArray Q (l.drop n) (puts a0 dst vs (fun _ => true) (List.range n)) w) :
    (Code.region id l.toArray true).wp P Q a0 W :=
  wp_region_facts n dst F I R hm hB hI hF (fun i o hi ho => by
    have := hstep.at _ _ i o (by rw [List.getElem?_take_of_lt hi]; exact ho)
    rwa [Nat.zero_add] at this) hend

/-- The same where memory only grows. -/
theorem wp_region_mono' {P : Program} {id : Nat} {Q : Exit → Act → World → Prop} {a0 : Act} {W : World} {l : List Oper} (n : Nat) (dst : Nat → Tmp) (F : Nat → Value → World → Prop) (hm : P.follows .mixedOrders = true) (hB : monoB l.toArray n dst a0.tmps.size = true)
    (hF : ∀ i v w w', F i v w → Below w.heap.size w w' → F i v w')
    (hstep : stepsOk P Q a0 n dst F (fun w => Below W.heap.size W w) (fun _ w w' => Below w.heap.size w w') 0 (l.take n))
    (hend : ∀ (vs : Nat → Value) (w : World), Below W.heap.size W w → (∀ i, i < n → F i (vs i) w) → wpList P l.toArray Q (l.drop n) (puts a0 dst vs (fun _ => true) (List.range n)) w) :
    (Code.region id l.toArray true).wp P Q a0 W :=
  wp_region_facts' n dst F (fun w => Below W.heap.size W w) (fun _ w w' => Below w.heap.size w w') hm hB ⟨rfl, rfl, rfl, Nat.le_refl _, fun _ _ => rfl⟩ (fun i _ v w w' _ hf _ hr => hF i v w w' hf hr) hstep hend

/-- What a step of such a region yields. -/
theorem grown_step {W w w' : World} {a : Act} {t : Tmp} {v : Value} {F : Value → World → Prop} (hW : Below W.heap.size W w) (hf : F v w') (hb : Below w.heap.size w w') : ∃ v', a.put (some t) v = a.put (some t) v' ∧ F v' w' ∧ Below W.heap.size W w' ∧ Below w.heap.size w w' :=
  ⟨v, rfl, hf, hW.trans (hb.mono hW.size), hb⟩

section
variable {P : Program} {o : Oper} {a : Act} {w : World}
theorem ex_load (T : TypeId) (p : Addr) (x : Operand) (v : Value) (ho : o.op = .load T x) (hx : a.eval x = .pointer (some p)) (hr : (Instr.loadAt T (.pointer (some p))).run P w = .ok v w) : (execOp a.eval o).run P w = .ok (.value v) w := by
  unfold execOp
  simp only [ho, hx, Sem.run_bind, hr, Result.andThen_ok, Sem.run_pure]
theorem ex_move (x : Operand) (v : Value) (ho : o.op = .move x) (hx : a.eval x = v) : (execOp a.eval o).run P w = .ok (.value v) w := by
  unfold execOp
  simp only [ho, hx, Sem.run_pure]
theorem ex_field (T : TypeId) (p : Addr) (x : Operand) (k : Nat) (v : Value) (ho : o.op = .fieldAddr T x k) (hx : a.eval x = .pointer (some p)) (hr : (Instr.fieldAt T (.pointer (some p)) k).run P w = .ok v w) : (execOp a.eval o).run P w = .ok (.value v) w := by
  unfold execOp
  simp only [ho, hx, Sem.run_bind, hr, Result.andThen_ok, Sem.run_pure]
theorem ex_cut (T : TypeId) (x y : Operand) (s i v : Value) (ho : o.op = .slice T x (some y) none none) (hx : a.eval x = s) (hy : a.eval y = i) (hr : (Instr.sliceAt T s (some i) none none).run P w = .ok v w) : (execOp a.eval o).run P w = .ok (.value v) w := by
  unfold execOp
  simp [ho, hx, hy, hr]
theorem ex_high (T : TypeId) (x y : Operand) (s i v : Value) (ho : o.op = .slice T x none (some y) none) (hx : a.eval x = s) (hy : a.eval y = i) (hr : (Instr.sliceAt T s none (some i) none).run P w = .ok v w) : (execOp a.eval o).run P w = .ok (.value v) w := by
  unfold execOp
  simp [ho, hx, hy, hr]
theorem ex_index (T : TypeId) (x y : Operand) (s i v : Value) (ho : o.op = .indexAddr T x y) (hx : a.eval x = s) (hy : a.eval y = i) (hr : (Instr.indexAt T s i).run P w = .ok v w) : (execOp a.eval o).run P w = .ok (.value v) w := by
  unfold execOp
  simp only [ho, hx, hy, Sem.run_bind, hr, Result.andThen_ok, Sem.run_pure]
theorem ex_build (T : TypeId) (parts : Array (Nat × Operand)) (ps : Array (Nat × Value)) (v : Value) (ho : o.op = .build T parts) (hp : (parts.map fun (i, x) => (i, a.eval x)) = ps) (hr : (Instr.build T ps).run P w = .ok v w) : (execOp a.eval o).run P w = .ok (.value v) w := by
  unfold execOp
  simp only [ho, hp, Sem.run_bind, hr, Result.andThen_ok, Sem.run_pure]
end

theorem wp_val {P : Program} {o : Oper} {a : Act} {w w' : World} {K : Act → World → Prop} {Q : Exit → Act → World → Prop} {v : Value} (hr : (execOp a.eval o).run P w = .ok (.value v) w') (h : K (a.put o.dst v) w') : o.wp P a w K Q := by
  unfold Oper.wp
  rw [hr]
  exact h

/-- Values that are known ahead. -/
def Vs (l : List Value) (i : Nat) (v : Value) (_ : World) : Prop := l[i]? = some v

theorem Vs.keeps (l : List Value) : ∀ (i : Nat) (v : Value) (w w' : World), Vs l i v w → Below w.heap.size w w' → Vs l i v w' := fun _ _ _ _ h _ => h

theorem Vs.dep {l : List Value} {a : Act} {t : Operand} {x y : Value} {i : Nat} {w : World} (h : a.eval t = x ∧ Vs l i x w) (hy : l[i]? = some y) : a.eval t = y := by
  have h2 : l[i]? = some x := h.2
  rw [hy] at h2
  rw [h.1]
  exact (Option.some.inj h2).symm

theorem low {k s j : Nat} (h : s < k) : k + j ≠ s := by omega

/-- A step that reads alone. -/
theorem wp_still {P : Program} {o : Oper} {a : Act} {W w : World} {Q : Exit → Act → World → Prop} {l : List Value} {i : Nat} {t : Tmp} {v : Value} (hr : (execOp a.eval o).run P w = .ok (.value v) w) (ht : o.dst = some t) (hv : l[i]? = some v) (hW : Below W.heap.size W w) :
    o.wp P a w (fun a' w' => ∃ v', a' = a.put (some t) v' ∧ Vs l i v' w' ∧ Below W.heap.size W w' ∧ Below w.heap.size w w') Q :=
  wp_val hr (by rw [ht]; exact ⟨v, rfl, hv, hW, Below.refl _ _⟩)
end Go.Proofs.YtcboenmmkaochabDoor.N

namespace Go.Proofs.YtcboenmmkaochabDoor.N
open Go.ChangeShapes Go.WideShapes Go.ChangeAt Go.RowKit
set_option maxHeartbeats 2000000
set_option maxRecDepth 100000

theorem size_ct : (Tryd.prog.info? 29).map (·.size) = some 4 := by kernel_rfl

theorem load_cell {w : World} {b : Nat} {pa : Array Value} {T : TypeId} {fs : Array Field} (h : w.there b 0 pa.size) (hu : Tryd.prog.underlying T = some (.struct fs)) (hi : (Tryd.prog.info? T).map (·.size) = some pa.size) :
    (loadVar T ⟨b, 0, none⟩).run Tryd.prog (w.setCells b 0 pa.toList) = .ok (.agg pa) (w.setCells b 0 pa.toList) :=
  run_loadVar_mid _ b 0 T pa.toList (.struct fs) (World.rangeAt_setCells_same w b 0 pa.toList (by rw [Array.length_toList]; exact h)) hu rfl (by rw [Array.length_toList]; exact hi)

theorem ct_load {u : World} {n : Nat} {C : Array Value} (hC : C.size = 4) (hb : u.heap[n]? = some (.cells C 29 (0, 0))) : (Instr.loadAt 29 (.pointer (some ⟨n, 0, none⟩))).run Tryd.prog u = .ok (.agg C) u := by
  refine run_loadAt_mid u n 0 29 C.toList (.struct _) (fun j v hv => ?_) Tryd.underlying29 rfl (by rw [Array.length_toList, hC]; exact size_ct)
  rw [Nat.zero_add, cell_of_row _ _ _ _ _ _ hb, ← hv, Array.getElem?_toList]

def zeroC : Array Value := #[.int .u8 0, .int .u8 0, .int .u32 0, .slice none 0 0]

theorem iparse_bad (v : Value) (L : List Nat) (w : World) (hv : SeesB w v L) (he : Im.prE L ≠ 0) :
    Calls Tryd.prog 15 #[v] w fun e w' => e = .returned (.tuple #[.agg zeroC, .int .i64 (Im.prE L)]) ∧ Below w.heap.size w w' := by
  obtain ⟨zz, hzz⟩ : ∃ zz : Array Value, zz = zeroC := ⟨_, rfl⟩
  obtain ⟨w1, hw1⟩ : ∃ w1, w1 = w.alloc (.cells zeroC 29) := ⟨_, rfl⟩
  have hb1 : Below w.heap.size w w1 := by rw [hw1]; exact (Below.refl _ _).alloc (Nat.le_refl _) _
  have hs1 : w1.heap.size = w.heap.size + 1 := by rw [hw1]; simp
  have HTH : Hid (∀ u, Below w1.heap.size w1 u → u.there w.heap.size 0 zz.size) := fun u hu => by
    rw [hzz]
    refine there_blk (C := zeroC) (t := 29) ?_ rfl
    rw [hu.block _ (by omega), hw1]
    exact heap_alloc_new w _
  have HW1 : Hid (w1 = w.alloc (.cells #[.int .u8 0, .int .u8 0, .int .u32 0, .slice none 0 0] 29)) := hw1
  have HB1 := hid hb1
  have HZ : Hid (zz = #[.int .u8 0, .int .u8 0, .int .u32 0, .slice none 0 0]) := hzz
  have HONE : Hid (zz.all (·.oneCell') = true) := by unfold Hid; rw [hzz]; simp [zeroC, Value.oneCell']
  have HINF : Hid ((Tryd.prog.info? 29).map (·.size) = some zz.size) := by unfold Hid; rw [hzz]; exact size_ct
  obtain ⟨ao, n, cap, rfl, HN, hn1, hn2⟩ := hv.shape
  unfold maxLen at hn2
  rw [← hzz]
  have HLV : Hid (∀ u, Below w1.heap.size w1 u → (loadVar 29 ⟨w.heap.size, 0, none⟩).run Tryd.prog (u.setCells w.heap.size 0 zz.toList) = .ok (.agg zz) (u.setCells w.heap.size 0 zz.toList)) := fun u hu => load_cell (HTH.out u hu) Tryd.underlying29 HINF.out
  have HBF : Hid (∀ u, Below w1.heap.size w1 u → Below w.heap.size w (u.setCells w.heap.size 0 zz.toList)) := fun u hu => below_setCells (Nat.le_refl _) _ _ _ (HB1.out.trans (hu.mono HB1.out.size))
  have HPE : Hid (Im.prE L = if n < 8 then 30 else if 65515 < n then 37 else if M.csum L = 0 then 0 else 33) := by unfold Hid; rw [HN.out]; rfl
  by_cases h8 : n < 8
  · have HE : Hid (Im.prE L = 30) := by unfold Hid; rw [HPE.out, if_pos h8]
    have h0 := Below.refl w1.heap.size w1
    have HTZ := hid (HTH.out _ h0)
    have HLV := hid (HLV.out _ h0)
    have HBF := hid (HBF.out _ h0)
    clear hw1 hb1 hs1 hv he hzz HPE h0
    go_enter Tryd.func15, Tryd.ntmps15
    go_upto_region 1 with fail
    rw [← HW1.out]
    go_wp2_with (first
      | (refine wpList_store_mid rfl 29 (.tmp 2) (.tmp 9) rfl w.heap.size 0 zz rfl (by rw [HZ.out]; rfl) HTZ.out HINF.out HONE.out ?_)
      | fail)
    generalize w1.setCells w.heap.size 0 zz.toList = wf at HLV HBF ⊢
    refine bodyPost_ret (v := .tuple #[.agg zz, .int .i64 30]) (by simp [results, Tryd.results15, asAddr, HLV.out]) rfl ?_
    exact ⟨by rw [HE.out], HBF.out⟩
  · by_cases hB : 65515 < n
    · have HE : Hid (Im.prE L = 37) := by unfold Hid; rw [HPE.out, if_neg h8, if_pos hB]
      have h0 := Below.refl w1.heap.size w1
      have HTZ := hid (HTH.out _ h0)
      have HLV := hid (HLV.out _ h0)
      have HBF := hid (HBF.out _ h0)
      clear hw1 hb1 hs1 hv he hzz HPE h0
      go_enter Tryd.func15, Tryd.ntmps15
      go_upto_region 1 with fail
      rw [← HW1.out]
      go_wp2_with (first
        | (refine wpList_store_mid rfl 29 (.tmp 2) (.tmp 14) rfl w.heap.size 0 zz rfl (by rw [HZ.out]; rfl) HTZ.out HINF.out HONE.out ?_)
        | fail)
      generalize w1.setCells w.heap.size 0 zz.toList = wf at HLV HBF ⊢
      refine bodyPost_ret (v := .tuple #[.agg zz, .int .i64 37]) (by simp [results, Tryd.results15, asAddr, HLV.out]) rfl ?_
      exact ⟨by rw [HE.out], HBF.out⟩
    · have hc : M.csum L ≠ 0 := fun h => he (by rw [HPE.out, if_neg h8, if_neg hB, if_pos h])
      have HE : Hid (Im.prE L = 33) := by unfold Hid; rw [HPE.out, if_neg h8, if_neg hB, if_neg hc]
      have hs := seesBB_one (w := w1) rfl _ _ (hv.below hb1) 26
      have HSM0 := sum_code _ _ _ hs (by simp; have := HN.out; omega)
      rw [show [L].flatten = L by simp] at HSM0
      have HSM : Hid (Calls Tryd.prog 33 #[.slice (some ⟨w1.heap.size, 0, none⟩) 1 1] (w1.alloc (.cells #[.slice ao n cap] 26)) fun e w' => e = .returned (.int .u16 ((M.csum L : Nat) : Int)) ∧ Below w1.heap.size w1 w') := by
        refine HSM0.mono ?_
        rintro e w' ⟨rfl, hb⟩
        have hbA : Below w1.heap.size w1 (w1.alloc (.cells #[.slice ao n cap] 26)) := (Below.refl w1.heap.size w1).alloc (Nat.le_refl _) _
        exact ⟨rfl, hbA.trans (hb.mono hbA.size)⟩
      generalize M.csum L = s at *
      have hq : ((s : Int) != 0) = true := by simp; omega
      clear hw1 hb1 hs1 hv he hzz HPE hs HSM0 hc
      go_enter Tryd.func15, Tryd.ntmps15
      go_upto_region 1 with fail
      rw [← HW1.out]
      go_wp2_with fail
      refine HSM.out.mono ?_
      rintro _ w2 ⟨rfl, hb2⟩
      have HTZ := hid (HTH.out _ hb2)
      have HLV := hid (HLV.out _ hb2)
      have HBF := hid (HBF.out _ hb2)
      go_wp2_with (first
        | (refine wpList_store_mid rfl 29 (.tmp 2) (.tmp 20) rfl w.heap.size 0 zz rfl (by rw [HZ.out]; rfl) HTZ.out HINF.out HONE.out ?_)
        | fail)
      generalize w2.setCells w.heap.size 0 zz.toList = wf at HLV HBF ⊢
      refine bodyPost_ret (v := .tuple #[.agg zz, .int .i64 33]) (by simp [results, Tryd.results15, asAddr, HLV.out]) rfl ?_
      exact ⟨by rw [HE.out], HBF.out⟩

theorem sees_setI {w : World} {ao : Option Addr} {n cap b : Nat} {L : List Nat} {vs : List Value} (h : SeesB w (.slice ao n cap) L) (hne : ∀ a, ao = some a → a.block ≠ b) : SeesB (w.setCells b 0 vs) (.slice ao n cap) L := by
  obtain ⟨ao', cap', hv, h1, h2, h3⟩ := h
  simp at hv
  obtain ⟨rfl, hn, rfl⟩ := hv
  refine ⟨ao, cap, by rw [hn], h1, h2, fun j hj => ?_⟩
  obtain ⟨g, off, ha, hg, hc, hb⟩ := h3 j hj
  have hg' := hne _ ha
  have e := World.cell?_setCells_out b vs 0 w ⟨g, off + j, none⟩ (fun hb _ => absurd hb hg')
  exact ⟨g, off, ha, World.block_lt_of_cell? _ ⟨g, off + j, none⟩ (e.trans hc), e.trans hc, hb⟩

theorem idx_at (n cap g off m : Nat) (i : Int) (hi : i = (m : Int)) (hm : m < n) (u : World) : (Instr.indexAt 26 (.slice (some ⟨g, off, none⟩) n cap) (.int .i64 i)).run Tryd.prog u = .ok (.pointer (some ⟨g, off + m, none⟩)) u := by
  subst hi
  have hu : Tryd.prog.underlying 26 = some (.slice 5) := by kernel_rfl
  have hsz : (sizeOf 5).run Tryd.prog u = .ok 1 u := by kernel_rfl
  simp [Instr.indexAt, run_underlying hu, asIntOf, go_sem, hsz, Result.andThen]
  omega

theorem load_u8 {u : World} {p : Addr} {x : Int} (h : u.cell? p = some (.int .u8 x)) : (Instr.loadAt 5 (.pointer (some p))).run Tryd.prog u = .ok (.int .u8 x) u := by
  simp [Instr.loadAt, go_sem, h]

theorem build_ct (a b c : Int) (p : Option Addr) (n cap : Nat) (u : World) : (Instr.build 29 #[(0, .int .u8 a), (1, .int .u8 b), (2, .int .u32 c), (3, .slice p n cap)]).run Tryd.prog u = .ok (.agg #[.int .u8 a, .int .u8 b, .int .u32 c, .slice p n cap]) u := by
  simp [Instr.build, run_underlying Tryd.underlying29, go_sem]

theorem rest_drop (L : List Nat) : Im.rest4 L = (byt (L.drop 4) 0 * 256 + byt (L.drop 4) 1) * 65536 + (byt (L.drop 4) 2 * 256 + byt (L.drop 4) 3) := by
  unfold Im.rest4 Im.at0 byt
  simp only [List.getD_eq_getElem?_getD, List.getElem?_drop]

theorem iparse_good (v : Value) (L : List Nat) (w : World) (hv : SeesB w v L) (he : Im.prE L = 0) :
    Calls Tryd.prog 15 #[v] w fun e w' => ∃ g k, e = .returned (.tuple #[.agg (ctCells (Im.prC L) (.slice (some ⟨g, 0, none⟩) k k)), .int .i64 0]) ∧ SeesB w' (.slice (some ⟨g, 0, none⟩) k k) (Im.prC L).B ∧ w.heap.size ≤ g ∧ Below w.heap.size w w' := by
  have hC : Im.prC L = ⟨byt L 0, byt L 1, Im.rest4 L, L.drop 8⟩ := by unfold Im.prC; rw [if_pos he]; rfl
  rw [hC, rest_drop]
  obtain ⟨w1, hw1⟩ : ∃ w1, w1 = w.alloc (.cells zeroC 29) := ⟨_, rfl⟩
  have hb1 : Below w.heap.size w w1 := by rw [hw1]; exact (Below.refl _ _).alloc (Nat.le_refl _) _
  have hs1 : w1.heap.size = w.heap.size + 1 := by rw [hw1]; simp
  obtain ⟨ao, n, cap, rfl, HN, hn1, hn2⟩ := hv.shape
  unfold maxLen at hn2
  have h8 : 8 ≤ n ∧ n ≤ 65515 ∧ M.csum L = 0 := by
    rw [HN.out]
    unfold Im.prE at he
    split at he
    · cases he
    · split at he
      · cases he
      · split at he
        · omega
        · cases he
  obtain ⟨h8, hB, hc⟩ := h8
  have hs := seesBB_one (w := w1) rfl _ _ (hv.below hb1) 26
  have HSM0 := sum_code _ _ _ hs (by simp; have := HN.out; omega)
  rw [show [L].flatten = L by simp, hc] at HSM0
  have HSM : Hid (Calls Tryd.prog 33 #[.slice (some ⟨w1.heap.size, 0, none⟩) 1 1] (w1.alloc (.cells #[.slice ao n cap] 26)) fun e w' => e = .returned (.int .u16 0) ∧ Below w1.heap.size w1 w') := by
    refine HSM0.mono ?_
    rintro e w' ⟨rfl, hb⟩
    have hbA : Below w1.heap.size w1 (w1.alloc (.cells #[.slice ao n cap] 26)) := (Below.refl w1.heap.size w1).alloc (Nat.le_refl _) _
    exact ⟨rfl, hbA.trans (hb.mono hbA.size)⟩
  obtain ⟨k, hk⟩ : ∃ k, k = n - 8 := ⟨_, rfl⟩
  have hmk : ∀ u : World, (Instr.makeSlice 26 (.int .i64 ((n : Int) - 8)) (.int .i64 ((n : Int) - 8))).run Tryd.prog u = .ok (.slice (some ⟨u.heap.size, 0, none⟩) k k) (u.alloc (.cells (madeCells #[.int .u8 0] k) 5)) := by
    rw [show (n : Int) - 8 = (k : Int) by omega]
    exact make_bytes k (by omega)
  obtain ⟨a8, HS8, hl8⟩ := hv.low 8 8 rfl (by omega)
  obtain ⟨a4, HS4, hl4⟩ := hv.low 4 4 rfl (by omega)
  rw [show n - 8 = k by omega] at hl8 HS8
  obtain ⟨g0, off, rfl, hg0, hc0⟩ := hv.atB 0 (by omega)
  obtain ⟨g1, off1, he1, _, hc1⟩ := hv.atB 1 (by omega)
  simp at he1
  obtain ⟨rfl, rfl⟩ := he1
  have HKL : Hid ((L.drop 8).length = k) := by unfold Hid; rw [List.length_drop]; have := HN.out; omega
  have HK := hid hk
  have HRL := hid (show 4 ≤ (L.drop 4).length by rw [List.length_drop]; have := HN.out; omega)
  have HSV := hid hv
  have HW1 : Hid (w1 = w.alloc (.cells #[.int .u8 0, .int .u8 0, .int .u32 0, .slice none 0 0] 29)) := hw1
  have HB1 := hid hb1
  have HTH : Hid (∀ u, Below w1.heap.size w1 u → u.there w.heap.size 0 4) := fun u hu => by
    refine there_blk (C := zeroC) (t := 29) ?_ rfl
    rw [hu.block _ (by omega), hw1]
    exact heap_alloc_new w _
  rw [Nat.add_zero] at hc0
  have b0 : (0 : Int) < (n : Int) := by omega
  have b1 : (1 : Int) < (n : Int) := by omega
  have HS1 := hid hs1
  generalize byt L 0 = x0 at *
  generalize byt L 1 = x1 at *
  clear hw1 hb1 hs1 hv hs HSM0 hc hC he hk
  go_enter Tryd.func15, Tryd.ntmps15
  go_upto_region 1 with fail
  rw [← HW1.out]
  go_wp2_with fail
  refine HSM.out.mono ?_
  rintro _ w2 ⟨rfl, hb2⟩
  have HBW : Hid (∀ u, Below w1.heap.size w1 u → Below w.heap.size w u) := fun u hu => HB1.out.trans (hu.mono HB1.out.size)
  have HB2 := hid hb2
  clear hb2
  go_wp2_with (first | (refine wpList_copy_splice rfl (.tmp 25) (.tmp 27) 26 26 rfl 5 Tryd.underlying26 size5 _ _ k k k (cap - 8) rfl rfl w2.heap.size 0 (madeCells #[.int .u8 0] k).toList 5 ?c1 (bs (L.drop 8)) ?c2 ?c3 ?c4 ?c5 w2.heap.size w2 ?c6 ?c7 ?_) | fail)
  case c1 => rw [Array.toArray_toList]; exact heap_alloc_new w2 _
  case c2 => show (bs _).length = min k k; rw [Nat.min_self, bs, List.length_map]; exact HKL.out
  case c3 => exact fun hp => (HS8.out.below (HBW.out _ (HB2.out.alloc HB2.out.size _))).src hp
  case c4 => rw [bs, List.length_map, HKL.out, Array.length_toList, size_madeCells]; omega
  case c5 => intro q hq; obtain ⟨y, _, rfl⟩ := List.mem_map.1 hq; rfl
  case c6 => exact (Below.refl _ _).alloc (Nat.le_refl _) _
  case c7 => exact Nat.le_refl _
  intro w3 HG hb3
  rw [splice_whole (by rw [bs, List.length_map, HKL.out, Array.length_toList, size_madeCells])] at HG
  have hb13 : Below w1.heap.size w1 w3 := HB2.out.trans (hb3.mono HB2.out.size)
  have hbw : Below w.heap.size w w3 := HBW.out _ hb13
  have HSB := hid (sees_blk (t := 5) HG.out HKL.out (by have := HK.out; omega) (fun x hx => HSV.out.bytes x (List.mem_of_mem_drop hx)))
  have d0 : w3.cell? ⟨g0, off, none⟩ = some (.int .u8 (x0 : Int)) := (hbw.cell (p := ⟨g0, _, none⟩) hg0).trans hc0
  have d1 : w3.cell? ⟨g0, off + 1, none⟩ = some (.int .u8 (x1 : Int)) := (hbw.cell (p := ⟨g0, _, none⟩) hg0).trans hc1
  obtain ⟨r, hr⟩ : ∃ r, r = (byt (L.drop 4) 0 * 256 + byt (L.drop 4) 1) * 65536 + (byt (L.drop 4) 2 * 256 + byt (L.drop 4) 3) := ⟨_, rfl⟩
  have HR := hid hr
  have HRD : Hid (∀ u, Below w3.heap.size w3 u → Calls Tryd.prog 34 #[.slice a4 (n - 4) (cap - 4)] u fun e w' => e = .returned (.int .u32 (r : Int)) ∧ Below u.heap.size u w') := fun u hu => by
    refine (iread32_any _ (L.drop 4) u (HS4.out.below (hbw.trans (hu.mono hbw.size))) HRL.out).mono ?_
    rintro e w' ⟨rfl, hb⟩
    rw [← HR.out]
    exact ⟨rfl, hb⟩
  have HB3 := hid hb3
  have HB13 := hid hb13
  clear hr hb3 hb13 hbw HG hc0 hc1 hmk hl8 HS8 HSM
  obtain ⟨zz, hzz⟩ : ∃ zz : Array Value, zz = #[.int .u8 (x0 : Int), .int .u8 (x1 : Int), .int .u32 (r : Int), .slice (some ⟨w2.heap.size, 0, none⟩) k k] := ⟨_, rfl⟩
  have HZ := hid hzz
  have HONE : Hid (zz.all (·.oneCell') = true) := by unfold Hid; rw [hzz]; simp [Value.oneCell']
  have HINF : Hid ((Tryd.prog.info? 29).map (·.size) = some zz.size) := by unfold Hid; rw [hzz]; exact size_ct
  have HTZ : Hid (∀ u, Below w3.heap.size w3 u → u.there w.heap.size 0 zz.size) := fun u hu => by
    rw [hzz]; exact HTH.out _ (HB13.out.trans (hu.mono HB13.out.size))
  have HEND : Hid (∀ u, Below w3.heap.size w3 u → (loadVar 29 ⟨w.heap.size, 0, none⟩).run Tryd.prog (u.setCells w.heap.size 0 zz.toList) = .ok (.agg zz) (u.setCells w.heap.size 0 zz.toList) ∧ Below w.heap.size w (u.setCells w.heap.size 0 zz.toList) ∧ SeesB (u.setCells w.heap.size 0 zz.toList) (.slice (some ⟨w2.heap.size, 0, none⟩) k k) (L.drop 8)) := fun u hu => by
    have hb := HB13.out.trans (hu.mono HB13.out.size)
    refine ⟨load_cell (HTZ.out u hu) Tryd.underlying29 HINF.out, below_setCells (Nat.le_refl _) _ _ _ (HBW.out _ hb), ?_⟩
    refine sees_setI (HSB.out.below hu) (fun a ha => ?_)
    cases ha
    have := HB2.out.size
    have := HS1.out
    show w2.heap.size ≠ w.heap.size
    omega
  clear hzz HTH
  go_upto_region 9 with fail
  refine wp_region_mono' 11 (fun i => 29 + i) (Vs [.slice (some ⟨g0, off, none⟩) n cap, .pointer (some ⟨g0, off, none⟩), .int .u8 (x0 : Int), .slice (some ⟨g0, off, none⟩) n cap, .pointer (some ⟨g0, off + 1, none⟩), .int .u8 (x1 : Int), .slice (some ⟨g0, off, none⟩) n cap, .slice a4 (n - 4) (cap - 4), .int .u32 (r : Int), .slice (some ⟨w2.heap.size, 0, none⟩) k k, .agg zz]) (by kernel_rfl) (by kernel_rfl) (Vs.keeps _) ?_ ?_
  · simp only [List.take_succ_cons, List.take_zero, stepsOk]
    refine ⟨?_, ?_, ?_, ?_, ?_, ?_, ?_, ?_, ?_, ?_, ?_, trivial⟩
    · intro a u vs hb hold hdep
      exact wp_still (ex_move (.tmp 0) _ rfl (hold 0 (fun j _ => low (by decide)))) rfl rfl hb
    · intro a u vs hb hold hdep
      exact wp_still (ex_index _ _ _ _ _ _ rfl (Vs.dep (hdep ⟨0, .data⟩ (by simp) rfl (by decide)) rfl) rfl (idx_at n cap g0 off 0 0 rfl (by omega) u)) rfl rfl hb
    · intro a u vs hb hold hdep
      refine wp_still (ex_load _ _ _ _ rfl (Vs.dep (hdep ⟨1, .data⟩ (by simp) rfl (by decide)) rfl) (load_u8 ((hb.cell (p := ⟨g0, _, none⟩) (World.block_lt_of_cell? w3 _ d0)).trans d0))) rfl rfl hb
    · intro a u vs hb hold hdep
      exact wp_still (ex_move (.tmp 0) _ rfl (hold 0 (fun j _ => low (by decide)))) rfl rfl hb
    · intro a u vs hb hold hdep
      exact wp_still (ex_index _ _ _ _ _ _ rfl (Vs.dep (hdep ⟨3, .data⟩ (by simp) rfl (by decide)) rfl) rfl (idx_at n cap g0 off 1 1 rfl (by omega) u)) rfl rfl hb
    · intro a u vs hb hold hdep
      refine wp_still (ex_load _ _ _ _ rfl (Vs.dep (hdep ⟨4, .data⟩ (by simp) rfl (by decide)) rfl) (load_u8 ((hb.cell (p := ⟨g0, _, none⟩) (World.block_lt_of_cell? w3 _ d1)).trans d1))) rfl rfl hb
    · intro a u vs hb hold hdep
      exact wp_still (ex_move (.tmp 0) _ rfl (hold 0 (fun j _ => low (by decide)))) rfl rfl hb
    · intro a u vs hb hold hdep
      exact wp_still (ex_cut _ _ _ _ _ _ rfl (Vs.dep (hdep ⟨6, .data⟩ (by simp) rfl (by decide)) rfl) rfl (hl4 u)) rfl rfl hb
    · intro a u vs hb hold hdep
      have e1 : a.eval (.tmp 36) = .slice a4 (n - 4) (cap - 4) := Vs.dep (hdep ⟨7, .data⟩ (by simp) rfl (by decide)) rfl
      refine wp_call 34 _ _ rfl (enters_of Tryd.func34 (by kernel_rfl) rfl) #[.slice a4 (n - 4) (cap - 4)] (by simp only [List.map_toArray, List.map_cons, List.map_nil, e1]) ?_
      refine (HRD.out u hb).mono ?_
      rintro _ u' ⟨rfl, hb'⟩
      exact ⟨_, rfl, _, rfl, rfl, hb.trans (hb'.mono hb.size), hb'⟩
    · intro a u vs hb hold hdep
      exact wp_still (ex_move (.tmp 4) _ rfl (hold 4 (fun j _ => low (by decide)))) rfl rfl hb
    · intro a u vs hb hold hdep
      have e2 : a.eval (.tmp 31) = .int .u8 (x0 : Int) := Vs.dep (hdep ⟨2, .data⟩ (by simp) rfl (by decide)) rfl
      have e5 : a.eval (.tmp 34) = .int .u8 (x1 : Int) := Vs.dep (hdep ⟨5, .data⟩ (by simp) rfl (by decide)) rfl
      have e8 : a.eval (.tmp 37) = .int .u32 (r : Int) := Vs.dep (hdep ⟨8, .data⟩ (by simp) rfl (by decide)) rfl
      have e9 : a.eval (.tmp 38) = .slice (some ⟨w2.heap.size, 0, none⟩) k k := Vs.dep (hdep ⟨9, .data⟩ (by simp) rfl (by decide)) rfl
      refine wp_still (ex_build _ _ #[(0, .int .u8 (x0 : Int)), (1, .int .u8 (x1 : Int)), (2, .int .u32 (r : Int)), (3, .slice (some ⟨w2.heap.size, 0, none⟩) k k)] (.agg zz) rfl (by simp only [List.map_toArray, List.map_cons, List.map_nil, e2, e5, e8, e9]) ?_) rfl rfl hb
      rw [HZ.out]
      exact build_ct _ _ _ _ _ _ u
  intro vs u hb hF
  have e0 : vs 0 = .slice (some ⟨g0, off, none⟩) n cap := (Option.some.inj (hF 0 (by decide))).symm
  have e1 : vs 1 = .pointer (some ⟨g0, off, none⟩) := (Option.some.inj (hF 1 (by decide))).symm
  have e2 : vs 2 = .int .u8 (x0 : Int) := (Option.some.inj (hF 2 (by decide))).symm
  have e3 : vs 3 = .slice (some ⟨g0, off, none⟩) n cap := (Option.some.inj (hF 3 (by decide))).symm
  have e4 : vs 4 = .pointer (some ⟨g0, off + 1, none⟩) := (Option.some.inj (hF 4 (by decide))).symm
  have e5 : vs 5 = .int .u8 (x1 : Int) := (Option.some.inj (hF 5 (by decide))).symm
  have e6 : vs 6 = .slice (some ⟨g0, off, none⟩) n cap := (Option.some.inj (hF 6 (by decide))).symm
  have e7 : vs 7 = .slice a4 (n - 4) (cap - 4) := (Option.some.inj (hF 7 (by decide))).symm
  have e8 : vs 8 = .int .u32 (r : Int) := (Option.some.inj (hF 8 (by decide))).symm
  have e9 : vs 9 = .slice (some ⟨w2.heap.size, 0, none⟩) k k := (Option.some.inj (hF 9 (by decide))).symm
  have e10 : vs 10 = .agg zz := (Option.some.inj (hF 10 (by decide))).symm
  simp only [List.drop_succ_cons, List.drop_zero, puts, List.range, List.range.loop, List.foldr, if_true, Act.put, e0, e1, e2, e3, e4, e5, e6, e7, e8, e9, e10, Nat.reduceAdd, List.setIfInBounds_toArray, List.set_cons_succ, List.set_cons_zero]
  clear e0 e1 e2 e3 e4 e5 e6 e7 e8 e9 e10 hF
  have HTU := hid (HTZ.out u hb)
  obtain ⟨q1, q2, q3⟩ := HEND.out u hb
  have HLV := hid q1
  have HBF := hid q2
  have HSF := hid q3
  clear q1 q2 q3
  go_wp2_with (first
    | (refine wpList_store_mid rfl 29 (.tmp 2) (.tmp 39) rfl w.heap.size 0 zz rfl rfl HTU.out HINF.out HONE.out ?_)
    | fail)
  generalize u.setCells w.heap.size 0 zz.toList = wf at HLV HBF HSF ⊢
  refine bodyPost_ret (v := .tuple #[.agg zz, .int .i64 0]) (by simp [results, Tryd.results15, asAddr, HLV.out]) rfl ?_
  exact ⟨w2.heap.size, k, by rw [HZ.out, HR.out]; rfl, HSF.out, by have := HB2.out.size; have := HS1.out; omega, HBF.out⟩
end Go.Proofs.YtcboenmmkaochabDoor.N

namespace Go.Proofs.YtcboenmmkaochabDoor.N
open Go.ChangeShapes Go.WideShapes Go.ChangeAt Go.RowKit
set_option maxHeartbeats 2000000
set_option maxRecDepth 100000

theorem iparse_any (v : Value) (L : List Nat) (w : World) (hv : SeesB w v L) :
    Calls Tryd.prog 15 #[v] w fun e w' => ∃ ao n cap, e = .returned (.tuple #[.agg (ctCells (Im.prC L) (.slice ao n cap)), .int .i64 (Im.prE L)]) ∧ SeesB w' (.slice ao n cap) (Im.prC L).B ∧ (∀ a, ao = some a → w.heap.size ≤ a.block) ∧ Below w.heap.size w w' := by
  by_cases he : Im.prE L = 0
  · refine (iparse_good v L w hv he).mono ?_
    rintro e w' ⟨g, k, rfl, hs, hg, hb⟩
    rw [he]
    exact ⟨_, _, _, rfl, hs, (fun a ha => by cases ha; exact hg), hb⟩
  · refine (iparse_bad v L w hv he).mono ?_
    rintro e w' ⟨rfl, hb⟩
    have hc : Im.prC L = Im.none0 := by unfold Im.prC; rw [if_neg he]
    rw [hc]
    exact ⟨none, 0, 0, rfl, sees_nil _, (fun a ha => by cases ha), hb⟩

theorem controls_same (m : Im.Ct) (va vb : Value) (w : World) (ha : SeesB w va m.B) (hb : SeesB w vb m.B) :
    Calls Tryd.prog 17 #[.agg (ctCells m va), .agg (ctCells m vb)] w fun e w' => e = .returned (.bool true) ∧ Below w.heap.size w w' := by
  obtain ⟨ao, n, cap, rfl, HN, hn1, hn2⟩ := ha.shape
  obtain ⟨bo, nb, capb, rfl, HNB, hnb1, hnb2⟩ := hb.shape
  obtain ⟨w1, hw1⟩ : ∃ w1, w1 = w.alloc (.cells (ctCells m (.slice ao n cap)) 29) := ⟨_, rfl⟩
  obtain ⟨w2, hw2⟩ : ∃ w2, w2 = w1.alloc (.cells (ctCells m (.slice bo nb capb)) 29) := ⟨_, rfl⟩
  have hs1 : w1.heap.size = w.heap.size + 1 := by rw [hw1]; simp
  have hb1 : Below w.heap.size w w1 := by rw [hw1]; exact (Below.refl _ _).alloc (Nat.le_refl _) _
  have hb2 : Below w1.heap.size w1 w2 := by rw [hw2]; exact (Below.refl _ _).alloc (Nat.le_refl _) _
  have hbw : Below w.heap.size w w2 := hb1.trans (hb2.mono hb1.size)
  have k1 : w2.heap[w.heap.size]? = some (.cells (ctCells m (.slice ao n cap)) 29) := by
    rw [hb2.block _ (by omega), hw1]; exact heap_alloc_new w _
  have k2 : w2.heap[w.heap.size + 1]? = some (.cells (ctCells m (.slice bo nb capb)) 29) := by
    rw [← hs1, hw2]; exact heap_alloc_new w1 _
  obtain ⟨c0, c1, c2, c3⟩ := ct_at k1
  obtain ⟨d0, d1, d2, d3⟩ := ct_at k2
  have HS := hid (same_any _ _ m.B m.B w2 (ha.below hbw) (hb.below hbw))
  have HBW := hid hbw
  have HW : Hid (w2 = (w.alloc (.cells (ctCells m (.slice ao n cap)) 29)).alloc (.cells (ctCells m (.slice bo nb capb)) 29)) := by unfold Hid; rw [hw2, hw1]
  clear hw1 hw2 hb1 hb2 hbw k1 k2 ha hb HN HNB
  generalize ctCells m (.slice ao n cap) = pa at *
  generalize ctCells m (.slice bo nb capb) = pb at *
  go_enter Tryd.func17, Tryd.ntmps17
  go_upto_region 1 with fail
  rw [← HW.out]
  go_wp2_with fail
  refine HS.out.mono ?_
  rintro _ w3 ⟨rfl, hb3⟩
  go_wp2_with fail
  go_ret
  exact ⟨ret_bool (by simp), HBW.out.trans (hb3.mono HBW.out.size)⟩
end Go.Proofs.YtcboenmmkaochabDoor.N
