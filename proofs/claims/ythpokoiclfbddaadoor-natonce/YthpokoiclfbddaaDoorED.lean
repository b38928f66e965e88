import Derived.Test.YthpokoiclfbddaaDoorEB
import Derived.Test.YthpokoiclfbddaaDoorEC
import Derived.Test.YthpokoiclfbddaaDoorEA
import Derived.Laws.CopyOwn
import Derived.Laws.OwnMore
namespace Go.Proofs.YthpokoiclfbddaaDoor.N
open Go.ChangeShapes Go.WideShapes Go.ChangeAt Go.RowKit
set_option maxHeartbeats 400000
set_option maxRecDepth 100000

theorem But.of_below {g : Nat} {w w' : World} (hb : Below w.heap.size w w') : But g w w' := ⟨hb.os, hb.tape, hb.output, hb.size, fun i hi _ => hb.block i hi⟩
theorem Blk.below {g : Nat} {w w' : World} {X : List Nat} (h : Blk w g X) (hb : Below w.heap.size w w') : Blk w' g X := (hb.block g h.lt).trans h

/-- A cut of a block of bytes. -/
theorem Blk.sees {g : Nat} {w : World} {X : List Nat} (h : Blk w g X) (hx : ∀ x ∈ X, x < 256) (o k c : Nat) (hk : o + k ≤ X.length) (hc : k ≤ c) (hcm : c ≤ maxLen) : SeesB w (.slice (some ⟨g, o, none⟩) k c) ((X.drop o).take k) := by
  have hl : ((X.drop o).take k).length = k := by rw [List.length_take, List.length_drop]; omega
  refine ⟨some ⟨g, o, none⟩, c, by rw [hl], ⟨by rw [hl]; exact hc, fun h => by cases h⟩, hcm, fun j hj => ?_⟩
  rw [hl] at hj
  have e : ((X.drop o).take k)[j]'(by rw [hl]; exact hj) = byt X (o + j) := by
    rw [List.getElem_take, List.getElem_drop]
    unfold byt
    rw [List.getD_eq_getElem?_getD, List.getElem?_eq_getElem (by omega)]
    rfl
  refine ⟨g, o, rfl, h.lt, ?_, ?_⟩
  · rw [h.cell (o + j) (by omega), e]
  · rw [e]; exact byt_lt hx _

theorem csum_gap (A B : List Nat) (hA : A.length % 2 = 0) : M.csum (A ++ 0 :: 0 :: B) = M.csum (A ++ B) := by
  unfold M.csum
  rw [M.tot_append, M.tot_append]
  have : M.par false A.length = false := by unfold M.par; rw [if_pos hA]
  rw [this]
  simp [M.tot]

set_option maxHeartbeats 2000000 in
/-- The sum is written into a header. -/
theorem seal_any (g size cap : Nat) (X : List Nat) (w : World) (hB : Blk w g X) (hx : ∀ x ∈ X, x < 256) (hs : 20 ≤ size) (hsz : size ≤ X.length) (hc : size ≤ cap) (hcap : cap ≤ 1099511627776) :
    Calls Tryd.prog 49 #[.slice (some ⟨g, 0, none⟩) size cap] w fun e w' => e = .returned (.tuple #[]) ∧ Blk w' g ((X.set 10 (M.csum (X.take 10 ++ (X.take size).drop 12) / 256)).set 11 (M.csum (X.take 10 ++ (X.take size).drop 12) % 256)) ∧ But g w w' := by
  have s1 : SeesB w.drew (.slice (some ⟨g, 0, none⟩) 10 cap) (X.take 10) := by
    have := (show Blk w.drew g X from hB).sees hx 0 10 cap (by omega) (by omega) (by unfold maxLen; omega)
    simpa using this
  have s2 : SeesB w.drew (.slice (some ⟨g, 12, none⟩) (size - 12) (cap - 12)) ((X.take size).drop 12) := by
    have := (show Blk w.drew g X from hB).sees hx 12 (size - 12) (cap - 12) (by omega) (by omega) (by unfold maxLen; omega)
    rwa [List.drop_take]
  obtain ⟨wA, hwA⟩ : ∃ wA, wA = w.drew.alloc (.cells #[.slice (some ⟨g, 0, none⟩) 10 cap, .slice (some ⟨g, 12, none⟩) (size - 12) (cap - 12)] 32) := ⟨_, rfl⟩
  have hbA : Below w.heap.size w wA := by rw [hwA]; exact (below_drew (Below.refl w.heap.size w)).alloc (Nat.le_refl _) _
  have HSM := sum_code _ _ _ (seesBB_two (w := w.drew) rfl _ _ _ _ s1 s2 32) (by simp; omega)
  rw [show [X.take 10, (X.take size).drop 12].flatten = X.take 10 ++ (X.take size).drop 12 by simp] at HSM
  have hlt := M.csum_lt (X.take 10 ++ (X.take size).drop 12)
  generalize M.csum (X.take 10 ++ (X.take size).drop 12) = s at *
  have HC : Hid (∀ u, Below w.heap.size w u → Calls Tryd.prog 68 #[.slice (some ⟨g, 10, none⟩) (size - 10) (cap - 10), .int .u16 (s : Int)] u fun e w' => e = .returned (.tuple #[]) ∧ Blk w' g ((X.set 10 (s / 256)).set (10 + 1) (s % 256)) ∧ But g u w') := fun u hu => write16_any g 10 (size - 10) (cap - 10) s X u (hB.below hu) (by omega) (by omega) hlt
  have HSM : Hid (Calls Tryd.prog 53 #[.slice (some ⟨w.heap.size, 0, none⟩) 2 2] (w.drew.alloc (.cells #[.slice (some ⟨g, 0, none⟩) 10 cap, .slice (some ⟨g, 12, none⟩) (size - 12) (cap - 12)] 32)) fun e w' => e = .returned (.int .u16 (s : Int)) ∧ Below w.heap.size w w') := by
    refine HSM.mono ?_
    rintro e w' ⟨rfl, hb⟩
    rw [← hwA] at hb
    exact ⟨rfl, hbA.trans (hb.mono hbA.size)⟩
  have k10 : ∀ u : World, (Instr.sliceAt 32 (.slice (some ⟨g, 0, none⟩) size cap) (some (.int .i64 10)) none none).run Tryd.prog u = .ok (.slice (some ⟨g, 10, none⟩) (size - 10) (cap - 10)) u := fun u => by
    have := cut_at g 0 size cap 10 10 rfl (by omega) (by omega) u
    rwa [Nat.zero_add] at this
  have k12 : ∀ u : World, (Instr.sliceAt 32 (.slice (some ⟨g, 0, none⟩) size cap) (some (.int .i64 12)) none none).run Tryd.prog u = .ok (.slice (some ⟨g, 12, none⟩) (size - 12) (cap - 12)) u := fun u => by
    have := cut_at g 0 size cap 12 12 rfl (by omega) (by omega) u
    rwa [Nat.zero_add] at this
  have hz : ∀ u : World, (Instr.sliceAt 32 (.slice (some ⟨g, 0, none⟩) size cap) none (some (.int .i64 10)) none).run Tryd.prog u = .ok (.slice (some ⟨g, 0, none⟩) 10 cap) u := fun u => by
    have hu : Tryd.prog.underlying 32 = some (.slice (Tryd.prog.elem 32)) := by kernel_rfl
    have hsz : (sizeOf (Tryd.prog.elem 32)).run Tryd.prog u = .ok 1 u := by kernel_rfl
    rw [run_sliceAt_slice (h := hu), run_slice_h (ht := hu) (h0 := by omega) (h2 := by omega), hsz]
    simp [Result.andThen, sliced, Addr.add]
  clear s1 s2 hB hwA hbA
  generalize size - 10 = z10 at *
  generalize size - 12 = z12 at *
  generalize cap - 10 = c10 at *
  generalize cap - 12 = c12 at *
  go_enter Tryd.func49, Tryd.ntmps49
  go_wp2_with fail
  go_region_with (first | (go_at_call 53; refine HSM.out.mono ?_; rintro _ w2 ⟨rfl, hb2⟩) | (go_at_call 68; refine (HC.out _ hb2).mono ?_; rintro _ w3 ⟨rfl, hB3, hu3⟩) | fail)
  all_goals (
    go_wp2_with fail
    exact bodyPost_end (results_none Tryd.results49 _ _ _) rfl ⟨rfl, hB3, (But.of_below hb2).trans hu3⟩)
end Go.Proofs.YthpokoiclfbddaaDoor.N

namespace Go.Proofs.YthpokoiclfbddaaDoor.N
open Go.ChangeShapes Go.WideShapes Go.ChangeAt Go.RowKit
set_option maxHeartbeats 1000000
set_option maxRecDepth 100000

theorem made_blk (u : World) (k : Nat) : Blk (u.alloc (.cells (madeCells #[.int .u8 0] k) 5)) u.heap.size (List.replicate k 0) := by
  unfold Blk
  rw [heap_alloc_new u _]
  have e : madeCells #[.int .u8 0] k = (bs (List.replicate k 0)).toArray := by
    rw [← Array.toArray_toList (xs := madeCells #[.int .u8 0] k), toList_madeCells_one]
    simp [bs]
  rw [e]

theorem bs_splice (X Y : List Nat) (o : Nat) : splice (bs X) o (bs Y) = bs (splice X o Y) := by
  unfold splice bs
  simp [List.map_take, List.map_drop]

theorem splice_head {A R Y : List Nat} {o : Nat} (ho : o = A.length) : splice (A ++ R) o Y = A ++ (Y ++ R.drop Y.length) := by
  subst ho
  unfold splice
  rw [List.take_left', List.drop_append]
  · simp
  · rfl

/-- A cut 'b[m:]' of a whole block: where nothing is left its place is not told. -/
theorem cut_end (g k m : Nat) (i : Int) (hi : i = m) (hm : m ≤ k) : ∃ ao, Hid (m < k → ao = some ⟨g, m, none⟩) ∧ ∀ u : World, (Instr.sliceAt 32 (.slice (some ⟨g, 0, none⟩) k k) (some (.int .i64 i)) none none).run Tryd.prog u = .ok (.slice ao (k - m) (k - m)) u := by
  subst hi
  refine ⟨if k = m then some ⟨g, 0, none⟩ else some ⟨g, m, none⟩, fun h => by rw [if_neg (by omega)], fun u => ?_⟩
  have hu : Tryd.prog.underlying 32 = some (.slice (Tryd.prog.elem 32)) := by kernel_rfl
  have hsz : (sizeOf (Tryd.prog.elem 32)).run Tryd.prog u = .ok 1 u := by kernel_rfl
  rw [run_sliceAt_slice (h := hu), run_slice_l (ht := hu) (h0 := by omega) (h1 := by omega), hsz]
  simp [Result.andThen, sliced, Addr.add_mid]

/-- Build, refused. -/
theorem build_bad (h : Hd) (vo vb : Value) (B : List Nat) (w : World) (hok : h.Ok) (hvo : SeesB w vo h.opts) (hvb : SeesB w vb B) (hlo : h.opts.length ≤ 140737488355328) (hlb : B.length ≤ 140737488355328) (he : refE h B.length ≠ 0) :
    Calls Tryd.prog 29 #[.agg (pkCells h vo vb)] w fun e w' => e = .returned (.tuple #[.slice none 0 0, .int .i64 (refE h B.length)]) ∧ Below w.heap.size w w' := by
  obtain ⟨w1, hw1⟩ : ∃ w1, w1 = w.alloc (.cells (pkCells h vo vb) 36) := ⟨_, rfl⟩
  have hb1 : Below w.heap.size w w1 := by rw [hw1]; exact (Below.refl _ _).alloc (Nat.le_refl _) _
  have hk1 : w1.heap[w.heap.size]? = some (.cells (pkCells h vo vb) 36) := by rw [hw1]; exact heap_alloc_new w _
  have HA := hid (area_code vo h.opts w1 (hvo.below hb1))
  have HP := hid (piece_code h.off B.length h.mf w1 hok.off (by omega))
  obtain ⟨ao, n, cap, rfl, HN, hn1, hn2⟩ := hvo.shape
  obtain ⟨ab, nb, capb, rfl, HNB, hnb1, hnb2⟩ := hvb.shape
  have hn47 : n ≤ 140737488355328 := by have := HN.out; omega
  have hnb47 : nb ≤ 140737488355328 := by have := HNB.out; omega
  have c3 : w1.cell? ⟨w.heap.size, 3, none⟩ = some (.bool h.mf) := pk_at hk1 3 (by omega)
  have c4 : w1.cell? ⟨w.heap.size, 4, none⟩ = some (.int .i64 h.off) := pk_at hk1 4 (by omega)
  have c9 : w1.cell? ⟨w.heap.size, 9, none⟩ = some (.slice ao n cap) := pk_at hk1 9 (by omega)
  have c10 : w1.cell? ⟨w.heap.size, 10, none⟩ = some (.slice ab nb capb) := pk_at hk1 10 (by omega)
  rw [← HNB.out] at HP
  have HW1 := hid hw1
  have HB1 := hid hb1
  obtain ⟨R, hR⟩ : ∃ R, R = refE h B.length := ⟨_, rfl⟩
  have HR : Hid (R = if M.area h.opts then (if M.pieceOk h.off nb h.mf then (if 20 + n + nb ≤ 65535 then 0 else 37) else 36) else 34) := by
    unfold Hid; rw [hR, HN.out, HNB.out]; rfl
  have HRN : Hid (R ≠ 0) := by unfold Hid; rw [hR]; exact he
  rw [← hR]
  clear hw1 hb1 hvo hvb hk1 hR he hlo hlb
  generalize M.area h.opts = ar at *
  generalize M.pieceOk h.off nb h.mf = pc at *
  generalize pkCells h (.slice ao n cap) (.slice ab nb capb) = pk at *
  cases ar
  · have HE : Hid (R = 34) := HR.out
    go_enter Tryd.func29, Tryd.ntmps29
    go_upto_region 1 with fail
    rw [← HW1.out]
    go_wp2_with fail
    refine HA.out.mono ?_
    rintro _ _ ⟨rfl, e⟩
    obtain rfl := e.symm
    go_wp2_with fail
    refine bodyPost_ret (results_tmp2 Tryd.results29 _ _ _) rfl ?_
    exact ⟨by rw [HE.out]; rfl, HB1.out⟩
  · cases pc
    · have HE : Hid (R = 36) := HR.out
      go_enter Tryd.func29, Tryd.ntmps29
      go_upto_region 1 with fail
      rw [← HW1.out]
      go_wp2_with fail
      refine HA.out.mono ?_
      rintro _ _ ⟨rfl, e⟩
      obtain rfl := e.symm
      go_wp2_with fail
      refine HP.out.mono ?_
      rintro _ _ ⟨rfl, e⟩
      obtain rfl := e.symm
      go_wp2_with fail
      refine bodyPost_ret (results_tmp2 Tryd.results29 _ _ _) rfl ?_
      exact ⟨by rw [HE.out]; rfl, HB1.out⟩
    · have hbig : 65535 < 20 + n + nb := by
        rcases Nat.lt_or_ge 65535 (20 + n + nb) with g | g
        · exact g
        · exfalso; apply HRN.out; rw [HR.out]; simp [g]
      have HE : Hid (R = 37) := by
        unfold Hid; rw [HR.out]; simp; omega
      go_enter Tryd.func29, Tryd.ntmps29
      go_upto_region 1 with fail
      rw [← HW1.out]
      go_wp2_with fail
      refine HA.out.mono ?_
      rintro _ _ ⟨rfl, e⟩
      obtain rfl := e.symm
      go_wp2_with fail
      refine HP.out.mono ?_
      rintro _ _ ⟨rfl, e⟩
      obtain rfl := e.symm
      go_wp2_with fail
      refine bodyPost_ret (results_tmp2 Tryd.results29 _ _ _) rfl ?_
      exact ⟨by rw [HE.out]; rfl, HB1.out⟩

theorem bytes_hd20 {h : Hd} (hok : h.Ok) {len f : Nat} (hl : len < 65536) (hf : h.off = (f : Int)) (hf1 : f ≤ 65528) (hol : h.opts.length ≤ 40) (ho : ∀ x ∈ h.opts, x < 256) : ∀ x ∈ hd20 h len 0, x < 256 := fun x hx =>
  hdBytes_ok hok ho hol hf hf1 hl (by omega : (0 : Nat) < 65536) x (by rw [hdBytes_eq]; exact List.mem_append_left _ hx)

theorem gap20 (h : Hd) (t : Nat) (T U : List Nat) : (hd20 h t 0 ++ T).take 10 ++ 0 :: 0 :: (hd20 h t 0 ++ U).drop 12 = hd20 h t 0 ++ U := by simp [hd20]

theorem set20 (h : Hd) (t s : Nat) (T : List Nat) : ((hd20 h t 0 ++ T).set 10 (s / 256)).set 11 (s % 256) = hd20 h t s ++ T := by simp [hd20]

theorem len20 (h : Hd) (t s : Nat) : (hd20 h t s).length = 20 := rfl

/-- What the sum is written into, and what comes of it. -/
theorem sealed (h : Hd) (B : List Nat) (t n : Nat) (hn : n = h.opts.length) (ht : t = lenOfPk h B) (he : refE h B.length = 0) :
    (((hd20 h t 0 ++ (h.opts ++ B)).set 10 (M.csum ((hd20 h t 0 ++ (h.opts ++ B)).take 10 ++ ((hd20 h t 0 ++ (h.opts ++ B)).take (20 + n)).drop 12) / 256)).set 11 (M.csum ((hd20 h t 0 ++ (h.opts ++ B)).take 10 ++ ((hd20 h t 0 ++ (h.opts ++ B)).take (20 + n)).drop 12) % 256)) = builtL h B := by
  have e1 : (hd20 h t 0 ++ (h.opts ++ B)).take (20 + n) = hd20 h t 0 ++ h.opts := by
    rw [← List.append_assoc, List.take_left' (by rw [List.length_append, len20, hn])]
  have e2 : M.csum ((hd20 h t 0 ++ (h.opts ++ B)).take 10 ++ (hd20 h t 0 ++ h.opts).drop 12) = M.csum (hdBytes h t 0) := by
    have := csum_gap ((hd20 h t 0 ++ (h.opts ++ B)).take 10) ((hd20 h t 0 ++ h.opts).drop 12) (by rw [List.length_take, List.length_append, len20, Nat.min_eq_left (by omega)])
    rw [gap20] at this
    rw [hdBytes_eq, this]
  rw [e1, e2, set20]
  unfold builtL
  rw [if_pos he, ← ht, hdBytes_eq h t (M.csum (hdBytes h t 0)), List.append_assoc]

set_option maxHeartbeats 1000000 in
/-- Build, done. -/
theorem build_good (h : Hd) (vo vb : Value) (B : List Nat) (w : World) (hok : h.Ok) (hvo : SeesB w vo h.opts) (hvb : SeesB w vb B) (he : refE h B.length = 0) :
    Calls Tryd.prog 29 #[.agg (pkCells h vo vb)] w fun e w' => ∃ ao n cap, e = .returned (.tuple #[.slice ao n cap, .int .i64 0]) ∧ SeesB w' (.slice ao n cap) (builtL h B) ∧ Below w.heap.size w w' := by
  obtain ⟨r1, r2, r3⟩ := refE_ok he
  obtain ⟨l1, l2⟩ := area_len r1
  obtain ⟨f, hf, hf1⟩ : ∃ f : Nat, h.off = (f : Int) ∧ f ≤ 65528 := by
    unfold M.pieceOk at r2
    simp at r2
    exact ⟨h.off.toNat, by omega, by omega⟩
  obtain ⟨w1, hw1⟩ : ∃ w1, w1 = w.alloc (.cells (pkCells h vo vb) 36) := ⟨_, rfl⟩
  have hb1 : Below w.heap.size w w1 := by rw [hw1]; exact (Below.refl _ _).alloc (Nat.le_refl _) _
  have hs1 : w1.heap.size = w.heap.size + 1 := by rw [hw1]; simp
  have HK : Hid (∀ u, Below w1.heap.size w1 u → u.heap[w.heap.size]? = some (.cells (pkCells h vo vb) 36)) := fun u hu => by
    rw [hu.block _ (by omega), hw1]; exact heap_alloc_new w _
  have hk1 := HK.out _ (Below.refl _ _)
  have HA0 := area_code vo h.opts w1 (hvo.below hb1)
  have HP0 := piece_code h.off B.length h.mf w1 hok.off (by omega)
  rw [r1] at HA0
  rw [r2] at HP0
  have HVO := hid hvo
  have HVB := hid hvb
  obtain ⟨ao, n, cap, rfl, HN, hn1, hn2⟩ := hvo.shape
  obtain ⟨ab, nb, capb, rfl, HNB, hnb1, hnb2⟩ := hvb.shape
  unfold maxLen at hn2 hnb2
  rw [← HNB.out] at HP0
  have HA := hid HA0
  have HP := hid HP0
  clear HA0 HP0
  have c3 : w1.cell? ⟨w.heap.size, 3, none⟩ = some (.bool h.mf) := pk_at hk1 3 (by omega)
  have c4 : w1.cell? ⟨w.heap.size, 4, none⟩ = some (.int .i64 h.off) := pk_at hk1 4 (by omega)
  have c9 : w1.cell? ⟨w.heap.size, 9, none⟩ = some (.slice ao n cap) := pk_at hk1 9 (by omega)
  have c10 : w1.cell? ⟨w.heap.size, 10, none⟩ = some (.slice ab nb capb) := pk_at hk1 10 (by omega)
  have hn40 : n ≤ 40 := by have := HN.out; omega
  have htot : 20 + n + nb ≤ 65535 := by have := HN.out; have := HNB.out; omega
  obtain ⟨tot, ht⟩ : ∃ tot, tot = 20 + n + nb := ⟨_, rfl⟩
  have hmk := make_bytes tot (by omega)
  obtain ⟨w2, hw2⟩ : ∃ w2, w2 = w1.alloc (.cells (madeCells #[.int .u8 0] tot) 5) := ⟨_, rfl⟩
  have hB2 : Blk w2 w1.heap.size (z20 ++ List.replicate (n + nb) 0) := by
    have := made_blk w1 tot
    rw [← hw2, ht, show 20 + n + nb = 20 + (n + nb) by omega, ← List.replicate_append_replicate] at this
    exact this
  have hb2 : Below w1.heap.size w1 w2 := by rw [hw2]; exact (Below.refl _ _).alloc (Nat.le_refl _) _
  have hbw2 : Below w.heap.size w w2 := hb1.trans (hb2.mono hb1.size)
  have HLAY := hid (layHead_any h (.slice ao n cap) w1.heap.size tot f (List.replicate (n + nb) 0) w2 hok hB2 (by rw [List.length_append, List.length_replicate, ht]; show 20 + _ = _; omega) (by omega) hf hf1 (HVO.out.below hbw2) l1 l2)
  have HL2 := hid (pk_loadH (HK.out _ hb2))
  obtain ⟨a20, HA20, k20⟩ := cut_end w1.heap.size tot 20 20 rfl (by omega)
  obtain ⟨aS, HAS, kS⟩ := cut_end w1.heap.size tot (20 + n) (20 + (n : Int)) (by omega) (by omega)
  have kH : ∀ u : World, (Instr.sliceAt 32 (.slice (some ⟨w1.heap.size, 0, none⟩) tot tot) none (some (.int .i64 (20 + (n : Int)))) none).run Tryd.prog u = .ok (.slice (some ⟨w1.heap.size, 0, none⟩) (20 + n) tot) u := fun u => by
    have hu : Tryd.prog.underlying 32 = some (.slice (Tryd.prog.elem 32)) := by kernel_rfl
    have hsz : (sizeOf (Tryd.prog.elem 32)).run Tryd.prog u = .ok 1 u := by kernel_rfl
    rw [run_sliceAt_slice (h := hu), run_slice_h (ht := hu) (h0 := by omega) (h2 := by omega), hsz]
    simp [Result.andThen, sliced, Addr.add]
    omega
  have HOB : Hid (∀ x ∈ h.opts, x < 256) := HVO.out.bytes
  have HBB : Hid (∀ x ∈ B, x < 256) := HVB.out.bytes
  have H20B := hid (bytes_hd20 hok (len := tot) (by omega) hf hf1 l1 HOB.out)
  have HSEAL : Hid (∀ u, Blk u w1.heap.size (hd20 h tot 0 ++ (h.opts ++ B)) → Calls Tryd.prog 49 #[.slice (some ⟨w1.heap.size, 0, none⟩) (20 + n) tot] u fun e w' => e = .returned (.tuple #[]) ∧ Hid (Blk w' w1.heap.size (builtL h B)) ∧ But w1.heap.size u w') := fun u hu => by
    have hlen : (hd20 h tot 0 ++ (h.opts ++ B)).length = tot := by
      rw [List.length_append, List.length_append, ht, HN.out, HNB.out]; show 20 + _ = _; omega
    have := seal_any w1.heap.size (20 + n) tot (hd20 h tot 0 ++ (h.opts ++ B)) u hu (fun x hx => by
      rcases List.mem_append.1 hx with hx | hx
      · exact H20B.out x hx
      · rcases List.mem_append.1 hx with hx | hx
        · exact HOB.out x hx
        · exact HBB.out x hx) (by omega) (by omega) (by omega) (by omega)
    refine this.mono ?_
    rintro e w' ⟨rfl, hB, hu'⟩
    refine ⟨rfl, ?_, hu'⟩
    rw [sealed h B tot n HN.out (by unfold lenOfPk; rw [ht, HN.out, HNB.out]) he] at hB
    exact hB
  have HEZ := hid he
  have HBX : Hid (∀ x ∈ builtL h B, x < 256) := by
    unfold Hid builtL
    rw [if_pos he]
    intro x hx
    rcases List.mem_append.1 hx with hx | hx
    · exact hdBytes_ok hok HOB.out l1 hf hf1 (by unfold lenOfPk; omega) (M.csum_lt _) x hx
    · exact HBB.out x hx
  have HW1 := hid hw1
  have HW2 := hid hw2
  have HB1 := hid hb1
  have HBW : Hid (∀ u, Below w1.heap.size w1 u → Below w.heap.size w u) := fun u hu => HB1.out.trans (hu.mono HB1.out.size)
  have HCC : Hid (∀ u, Below w1.heap.size w1 u → u.cell? ⟨w.heap.size, 9, none⟩ = some (.slice ao n cap) ∧ u.cell? ⟨w.heap.size, 10, none⟩ = some (.slice ab nb capb)) := fun u hu => ⟨pk_at (HK.out u hu) 9 (by omega), pk_at (HK.out u hu) 10 (by omega)⟩
  have HTT := hid ht
  have hS20 : (20 : Int) + (n : Int) ≤ (tot : Int) := by omega
  have htot' : tot ≤ 65535 := by omega
  have htn : 20 + n ≤ tot := by omega
  have HET : Hid ((20 : Int) + (n : Int) + (nb : Int) = (tot : Int)) := by unfold Hid; omega
  have HB2 := hid hb2
  clear hw1 hw2 hvo hvb hk1 hb1 hbw2 r1 r2 r3 he hf ht hs1
  generalize pkCells h (.slice ao n cap) (.slice ab nb capb) = pk at *
  generalize hdCells h (.slice ao n cap) = hc at *
  go_enter Tryd.func29, Tryd.ntmps29
  go_upto_region 1 with fail
  rw [← HW1.out]
  go_wp2_with fail
  refine HA.out.mono ?_
  rintro _ _ ⟨rfl, e⟩
  obtain rfl := e.symm
  go_wp2_with fail
  refine HP.out.mono ?_
  rintro _ _ ⟨rfl, e⟩
  obtain rfl := e.symm
  go_upto_region 9 with fail
  simp only [HET.out]
  go_upto_region 10 with fail
  rw [← HW2.out]
  go_wp2_with (first | (refine wpList_ld 34 ⟨w.heap.size, 0, none⟩ (.tmp 41) rfl rfl HL2.out rfl ?_) | fail)
  refine HLAY.out.mono ?_
  rintro _ w3 ⟨rfl, hB3, hu3⟩
  have hb3 : Below w1.heap.size w1 w3 := hu3.below HB2.out HB2.out.size (Nat.le_refl _)
  obtain ⟨d9, d10⟩ := HCC.out _ hb3
  have HG3 : Hid (w3.heap[w1.heap.size]? = some (.cells (bs (hd20 h tot 0 ++ List.replicate (n + nb) 0)).toArray 5 (0, 0))) := hB3
  obtain ⟨X3, hX3⟩ : ∃ X3, X3 = bs (hd20 h tot 0 ++ List.replicate (n + nb) 0) := ⟨_, rfl⟩
  obtain ⟨O3, hO3⟩ : ∃ O3, O3 = bs h.opts := ⟨_, rfl⟩
  have HO3 := hid hO3
  have HX3 := hid hX3
  have HLO : Hid (O3.length = n) := by unfold Hid; rw [hO3, bs, List.length_map, HN.out]
  have HLX : Hid (X3.length = tot) := by unfold Hid; rw [hX3, bs, List.length_map, List.length_append, len20, List.length_replicate]; have := HTT.out; omega
  rw [← hX3] at HG3
  clear hX3 hO3 HLAY HA HP c3 c4 c9 c10 hu3 hB3 hmk HL2 HW2
  have HMN : Hid (O3.length = Nat.min n (tot - 20)) := by unfold Hid; rw [HLO.out]; have := HTT.out; show n = min n (tot - 20); omega
  have HPS : Hid (0 < O3.length → a20 = some ⟨w1.heap.size, 20, none⟩ ∧ ∃ ad, ao = some ad ∧ ∀ j v, O3[j]? = some v → w3.drew.cell? (ad.add j) = some v) := fun hp => by
    refine ⟨HA20.out (by have := HLO.out; have := HTT.out; omega), ?_⟩
    rw [HO3.out] at hp ⊢
    exact (HVO.out.below (HBW.out _ (below_drew hb3))).src hp
  have HFT : Hid (20 + O3.length ≤ X3.length) := by unfold Hid; rw [HLO.out, HLX.out]; have := HTT.out; omega
  have HO1 : Hid (∀ v ∈ O3, v.oneCell' = true) := fun v hv => by
    rw [HO3.out] at hv
    obtain ⟨y, _, rfl⟩ := List.mem_map.1 hv
    rfl
  have HBD3 := hid (below_drew hb3)
  go_upto_region 11 with fail
  go_cut [] from 44 (fun wx => Hid (wx.heap[w1.heap.size]? = some (.cells (splice X3 20 O3).toArray 5 (0, 0))) ∧ Below w1.heap.size w1 wx)
  case first =>
    go_region_law (first
      | (refine step_copy_splice rfl (.tmp 45) (.tmp 48) 32 32 rfl 5 Tryd.underlying32 size5 a20 ao (tot - 20) (tot - 20) n cap rfl rfl w1.heap.size 20 X3 5 HG3.out O3 HMN.out HPS.out HFT.out HO1.out w1.heap.size w1 HBD3.out (Nat.le_refl _) ?_; intro w4 hg4 hb4)
      | fail)
    all_goals (
      go_wp2_with fail
      go_meet
      case rel => exact ⟨hg4, hb4⟩)
  case rest =>
  obtain ⟨HG4, hb4⟩ := hcut
  obtain ⟨w4, hw4⟩ : ∃ w4, w4 = wc := ⟨_, rfl⟩
  rw [← hw4] at HG4 hb4 ⊢
  clear hw4 d9 d10 HMN HPS HFT HO1 HBD3 hb3 HG3 k20
  obtain ⟨e9, e10⟩ := HCC.out _ hb4
  obtain ⟨X4, hX4⟩ : ∃ X4, X4 = splice X3 20 O3 := ⟨_, rfl⟩
  obtain ⟨O4, hO4⟩ : ∃ O4, O4 = bs B := ⟨_, rfl⟩
  rw [← hX4] at HG4
  have HX4 := hid hX4
  have HO4 := hid hO4
  have HLO4 : Hid (O4.length = nb) := by unfold Hid; rw [hO4, bs, List.length_map, HNB.out]
  have HLX4 : Hid (X4.length = tot) := by unfold Hid; rw [hX4, length_splice _ _ _ (by rw [HLO.out, HLX.out]; have := HTT.out; omega), HLX.out]
  have HMN : Hid (O4.length = Nat.min nb (tot - (20 + n))) := by unfold Hid; rw [HLO4.out]; have := HTT.out; show nb = min nb (tot - (20 + n)); omega
  have HPS : Hid (0 < O4.length → aS = some ⟨w1.heap.size, 20 + n, none⟩ ∧ ∃ ad, ab = some ad ∧ ∀ j v, O4[j]? = some v → w4.drew.cell? (ad.add j) = some v) := fun hp => by
    refine ⟨HAS.out (by have := HLO4.out; have := HTT.out; omega), ?_⟩
    rw [HO4.out] at hp ⊢
    exact (HVB.out.below (HBW.out _ (below_drew hb4))).src hp
  have HFT : Hid (20 + n + O4.length ≤ X4.length) := by unfold Hid; rw [HLO4.out, HLX4.out]; have := HTT.out; omega
  have HO1 : Hid (∀ v ∈ O4, v.oneCell' = true) := fun v hv => by
    rw [HO4.out] at hv
    obtain ⟨y, _, rfl⟩ := List.mem_map.1 hv
    rfl
  have HBD4 := hid (below_drew hb4)
  clear hX4 hO4
  go_upto_region 12 with fail
  go_cut [] from 50 (fun wx => Hid (wx.heap[w1.heap.size]? = some (.cells (splice X4 (20 + n) O4).toArray 5 (0, 0))) ∧ Below w1.heap.size w1 wx)
  case first =>
    go_region_law (first
      | (refine step_copy_splice rfl (.tmp 52) (.tmp 54) 32 32 rfl 5 Tryd.underlying32 size5 aS ab (tot - (20 + n)) (tot - (20 + n)) nb capb rfl rfl w1.heap.size (20 + n) X4 5 HG4.out O4 HMN.out HPS.out HFT.out HO1.out w1.heap.size w1 HBD4.out (Nat.le_refl _) ?_; intro w5 hg5 hb5)
      | fail)
    all_goals (
      go_wp2_with fail
      go_meet
      case rel => exact ⟨hg5, hb5⟩)
  case rest =>
  obtain ⟨HG5, hb5⟩ := hcut
  obtain ⟨w5, hw5⟩ : ∃ w5, w5 = wc := ⟨_, rfl⟩
  rw [← hw5] at HG5 hb5 ⊢
  clear hw5 e9 e10 HMN HPS HFT HO1 HBD4 HG4 kS
  have hB5 : Blk w5 w1.heap.size (hd20 h tot 0 ++ (h.opts ++ B)) := by
    have e1 : splice X3 20 O3 = bs (hd20 h tot 0 ++ (h.opts ++ List.replicate nb 0)) := by
      rw [HX3.out, HO3.out, bs_splice, splice_head (len20 _ _ _).symm, List.drop_replicate, ← HN.out, show n + nb - n = nb by omega]
    have e2 : splice X4 (20 + n) O4 = bs (hd20 h tot 0 ++ (h.opts ++ B)) := by
      rw [HX4.out, e1, HO4.out, bs_splice, ← List.append_assoc, splice_head (by rw [List.length_append, len20, HN.out]), List.drop_replicate, ← HNB.out, Nat.sub_self]
      simp
    have := HG5.out
    rw [e2] at this
    exact this
  have HSL := hid (HSEAL.out _ hB5)
  clear hB5 HSEAL HG5
  go_wp2_with fail
  refine HSL.out.mono ?_
  rintro _ w6 ⟨rfl, hB6, hu6⟩
  have hb6 : Below w1.heap.size w1 w6 := hu6.below hb5 hb5.size (Nat.le_refl _)
  go_wp2_with fail
  refine bodyPost_ret (results_tmp2 Tryd.results29 _ _ _) rfl ?_
  refine ⟨some ⟨w1.heap.size, 0, none⟩, tot, tot, rfl, ?_, HBW.out _ hb6⟩
  have hlen : (builtL h B).length = tot := by
    have := HTT.out
    have e : (bs (builtL h B)).length = tot := by
      unfold builtL
      rw [if_pos HEZ.out, bs, List.length_map, List.length_append, hdBytes_len, this, HN.out, HNB.out]
    simpa [bs] using e
  have hx : ∀ x ∈ builtL h B, x < 256 := HBX.out
  have := hB6.out.sees hx 0 tot tot (by omega) (Nat.le_refl _) (by unfold maxLen; omega)
  rwa [List.drop_zero, List.take_of_length_le (by omega)] at this
end Go.Proofs.YthpokoiclfbddaaDoor.N

namespace Go.Proofs.YthpokoiclfbddaaDoor.N
open Go.ChangeShapes Go.WideShapes Go.ChangeAt Go.RowKit
set_option maxHeartbeats 400000
set_option maxRecDepth 100000

end Go.Proofs.YthpokoiclfbddaaDoor.N

namespace Go.Proofs.YthpokoiclfbddaaDoor.N
open Go.ChangeShapes Go.WideShapes Go.ChangeAt Go.RowKit
set_option maxHeartbeats 1000000
set_option maxRecDepth 100000

theorem built_bytes {h : Hd} {B : List Nat} (hok : h.Ok) (ho : ∀ x ∈ h.opts, x < 256) (hb : ∀ x ∈ B, x < 256) : ∀ x ∈ builtL h B, x < 256 := by
  unfold builtL
  by_cases he : refE h B.length = 0
  · rw [if_pos he]
    obtain ⟨r1, r2, r3⟩ := refE_ok he
    obtain ⟨l1, l2⟩ := area_len r1
    obtain ⟨f, hf, hf1⟩ : ∃ f : Nat, h.off = (f : Int) ∧ f ≤ 65528 := by
      unfold M.pieceOk at r2
      simp at r2
      exact ⟨h.off.toNat, by omega, by omega⟩
    intro x hx
    rcases List.mem_append.1 hx with hx | hx
    · exact hdBytes_ok hok ho l1 hf hf1 (by unfold lenOfPk; omega) (M.csum_lt _) x hx
    · exact hb x hx
  · rw [if_neg he]
    intro x hx; cases hx

/-- The program's Build. -/
theorem build_code (h : Hd) (vo vb : Value) (B : List Nat) (w : World) (hok : h.Ok) (hvo : SeesB w vo h.opts) (hvb : SeesB w vb B) (hlo : h.opts.length ≤ 140737488355328) (hlb : B.length ≤ 140737488355328) :
    Calls Tryd.prog 29 #[.agg (pkCells h vo vb)] w fun e w' => ∃ ao n cap, e = .returned (.tuple #[.slice ao n cap, .int .i64 (refE h B.length)]) ∧ SeesB w' (.slice ao n cap) (builtL h B) ∧ Below w.heap.size w w' := by
  by_cases he : refE h B.length = 0
  · rw [he]
    exact build_good h vo vb B w hok hvo hvb he
  · refine (build_bad h vo vb B w hok hvo hvb hlo hlb he).mono ?_
    rintro e w' ⟨rfl, hb⟩
    refine ⟨none, 0, 0, rfl, ?_, hb⟩
    unfold builtL
    rw [if_neg he]
    exact sees_nil _

end Go.Proofs.YthpokoiclfbddaaDoor.N
