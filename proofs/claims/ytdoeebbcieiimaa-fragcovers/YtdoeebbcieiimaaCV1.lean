import Derived.Test.YtdoeebbcieiimaaFH
import Derived.Test.YtdoeebbcieiimaaFF
namespace Go.Proofs.Ytdoeebbcieiimaa
open Go.ChangeShapes Go.WideShapes Go.ChangeAt Go.RowKit
set_option maxHeartbeats 4000000
set_option maxRecDepth 100000

def opt5 (n : Nat) : List Nat := 131 :: 40 :: (List.range (n - 2)).map (· + 2)

def optL (k : Nat) : List Nat :=
  if k = 1 then [1, 0, 0, 0] else if k = 2 then [131, 7, 4, 1, 2, 3, 4, 0] else if k = 3 then [7, 7, 4, 9, 9, 9, 9, 1] else if k = 4 then [1, 7, 3, 4, 136, 4, 5, 6, 130, 3, 9, 0] else if k = 5 then opt5 40 else []

theorem optL_area (k : Nat) : M.area (optL k) = true := by
  unfold optL
  split
  · unfold M.area
    rw [M.okO_some (k := 1) (by simp) (by decide), M.okO_some (k := 3) (by simp) (by decide)]
    simp [M.okO_nil]
  · split
    · unfold M.area
      rw [M.okO_some (k := 7) (by simp) (by decide), M.okO_some (k := 1) (by simp) (by decide)]
      simp [M.okO_nil]
    · split
      · unfold M.area
        rw [M.okO_some (k := 7) (by simp) (by decide), M.okO_some (k := 1) (by simp) (by decide)]
        simp [M.okO_nil]
      · split
        · unfold M.area
          rw [M.okO_some (k := 1) (by simp) (by decide), M.okO_some (k := 3) (by simp) (by decide), M.okO_some (k := 4) (by simp) (by decide), M.okO_some (k := 3) (by simp) (by decide), M.okO_some (k := 1) (by simp) (by decide)]
          simp [M.okO_nil]
        · split
          · unfold M.area
            rw [M.okO_some (k := 40) (by simp [opt5]) (by decide)]
            have : (opt5 40).drop 40 = [] := by decide
            rw [this, M.okO_nil]
            decide
          · unfold M.area; simp [M.okO_nil]

theorem optL_bytes (k : Nat) : ∀ x ∈ optL k, x < 256 := by
  unfold optL
  split
  · decide
  · split
    · decide
    · split
      · decide
      · split
        · decide
        · split
          · decide
          · intro x hx; cases hx

theorem optL_len (k : Nat) : (optL k).length ≤ 40 := (area_len (optL_area k)).1

theorem opt5_succ {n : Nat} (hn : 2 ≤ n) : opt5 n ++ [n] = opt5 (n + 1) := by
  unfold opt5
  rw [show n + 1 - 2 = (n - 2) + 1 by omega, List.range_succ, List.map_append]
  simp
  omega

theorem opt5_len {n : Nat} (hn : 2 ≤ n) : (opt5 n).length = n := by unfold opt5; simp; omega
theorem opt5_bytes {n : Nat} (hn : n ≤ 256) : ∀ x ∈ opt5 n, x < 256 := by
  intro x hx
  unfold opt5 at hx
  simp at hx
  rcases hx with rfl | rfl | ⟨y, hy, rfl⟩ <;> omega

theorem options_any (k : Nat) (w : World) (_hk : k < 256) :
    Calls Try.prog 24 #[.int .i64 (k : Int)] w fun e w' => ∃ v', e = .returned v' ∧ OwnB w' w.heap.size v' (optL (k % 6)) ∧ Below w.heap.size w w' := by
  obtain ⟨j, hj⟩ : ∃ j, j = k % 6 := ⟨_, rfl⟩
  have ek : (k : Int) % 6 = (j : Int) := by omega
  have ek' : (k : Int).tmod 6 = (j : Int) := by rw [hj]; rfl
  have hj6 : j < 6 := by omega
  rw [← hj]
  clear hj
  have hcase : j = 0 ∨ j = 1 ∨ j = 2 ∨ j = 3 ∨ j = 4 ∨ j = 5 := by omega
  have hA : ∀ o, Below w.heap.size w (w.alloc o) := fun o => (Below.refl _ _).alloc (Nat.le_refl _) _
  have HA := hid hA
  clear hA
  rcases hcase with rfl | rfl | rfl | rfl | rfl | rfl
  · go_enter Try.func24, Try.ntmps24
    go_wp2_with fail
    go_ret
    exact ⟨_, rfl, ownB_nil _ _, Below.refl _ _⟩
  · go_enter Try.func24, Try.ntmps24
    go_wp2_with fail
    go_ret
    exact ⟨_, rfl, own_blk (L := [1, 0, 0, 0]) (heap_alloc_new w _) rfl (Nat.le_refl _) (by omega), HA.out _⟩
  · go_enter Try.func24, Try.ntmps24
    go_wp2_with fail
    go_ret
    exact ⟨_, rfl, own_blk (L := [131, 7, 4, 1, 2, 3, 4, 0]) (heap_alloc_new w _) rfl (Nat.le_refl _) (by omega), HA.out _⟩
  · go_enter Try.func24, Try.ntmps24
    go_wp2_with fail
    go_ret
    exact ⟨_, rfl, own_blk (L := [7, 7, 4, 9, 9, 9, 9, 1]) (heap_alloc_new w _) rfl (Nat.le_refl _) (by omega), HA.out _⟩
  · go_enter Try.func24, Try.ntmps24
    go_wp2_with fail
    go_ret
    exact ⟨_, rfl, own_blk (L := [1, 7, 3, 4, 136, 4, 5, 6, 130, 3, 9, 0]) (heap_alloc_new w _) rfl (Nat.le_refl _) (by omega), HA.out _⟩
  · have HZ : Hid (OwnB (w.alloc (.cells #[.int .u8 131, .int .u8 40] 5)) w.heap.size (.slice (some ⟨w.heap.size, 0, none⟩) 2 2) (opt5 2)) := own_blk (L := [131, 40]) (heap_alloc_new w _) rfl (Nat.le_refl _) (by omega)
    go_enter Try.func24, Try.ntmps24
    go_wp2_with fail
    go_loopw [3] (fun v wv => ∃ (n : Nat) (wr : World), wr = wv ∧ 2 ≤ n ∧ n ≤ 40 ∧ Hid (OwnB wr w.heap.size v (opt5 n)) ∧ Hid (Below w.heap.size w wr)) (fun v _ => 40 - lenOf v)
    case atStart => exact ⟨2, _, rfl, by omega, by omega, HZ, HA.out _⟩
    case round =>
      obtain ⟨n, wr, rfl, h2, h40, HO, HB⟩ := hrel
      obtain ⟨ao, cap, rfl⟩ := HO.out.shape
      rw [opt5_len h2] at HO ⊢
      have HS5 : Hid (w.heap.size ≤ wr.heap.size) := HB.out.size
      by_cases hlt : n < 40
      · go_wp2_with (at_builtin; refine wpList_append_bytes rfl _ _ rfl w.heap.size _ _ rfl (HO.out.alloc _) _ [n] rfl (sees_one rfl n (by omega) _) ?c1 ?c2 ?_)
        case c1 => rw [opt5_len h2]; simp; omega
        case c2 => have := HS5.out; simp; omega
        intro v' w3 ho3 hb3
        rw [opt5_succ h2] at ho3
        obtain ⟨a3, c3, rfl⟩ := ho3.shape
        rw [opt5_len (by omega)] at ho3 ⊢
        have HO3 := hid ho3
        have HB3 : Hid (Below w.heap.size w w3) := (HB.out.alloc HS5.out _).trans hb3
        clear ho3 hb3
        go_wp2_with fail
        go_roundw
        case rel => exact ⟨n + 1, _, rfl, by omega, by omega, HO3, HB3⟩
        case measure => simp [lenOf]; omega
      · obtain rfl : n = 40 := by omega
        go_wp2_with fail
        go_ret
        exact ⟨_, rfl, HO.out, HB.out⟩

def wh (o id : Nat) : Hd := ⟨o, id, false, false, 0, 200, 17, 167772161, 167772162, optL (o % 6)⟩

theorem wh_ok {o id : Nat} (ho : o < 256) (hi : id < 65536) : (wh o id).Ok := ⟨ho, hi, ⟨by show (-9223372036854775808 : Int) ≤ 0; decide, by show (0 : Int) ≤ 9223372036854775807; decide⟩, by show 200 < 256; decide, by show 17 < 256; decide, by show 167772161 < 4294967296; decide, by show 167772162 < 4294967296; decide⟩

theorem whole_any (v : Value) (L : List Nat) (o id : Nat) (w : World) (hv : SeesB w v L) (ho : o < 256) (_hi : id < 65536) :
    Calls Try.prog 9 #[v, .int .u8 (o : Int), .int .u16 (id : Int)] w fun e w' => ∃ vo vb, e = .returned (.agg (pkCells (wh o id) vo vb)) ∧ OwnB w' (w.heap.size + 1) vo (wh o id).opts ∧ OwnB w' (w.heap.size + 1) vb (L.take 3000) ∧ Below w.heap.size w w' := by
  obtain ⟨w1, hw1⟩ : ∃ w1, w1 = w.alloc (.cells Z29 29) := ⟨_, rfl⟩
  have hb1 : Below w.heap.size w w1 := by rw [hw1]; exact (Below.refl _ _).alloc (Nat.le_refl _) _
  have hs1 : w1.heap.size = w.heap.size + 1 := by rw [hw1]; simp
  have hk1 : w1.heap[w.heap.size]? = some (.cells Z29 29) := by rw [hw1]; exact heap_alloc_new w _
  have HOP : Hid (∀ u, Calls Try.prog 24 #[.int .i64 (o : Int)] u fun e w' => ∃ v', e = .returned v' ∧ OwnB w' u.heap.size v' (optL (o % 6)) ∧ Below u.heap.size u w') := fun u => options_any o u ho
  obtain ⟨av, n, cv, rfl, HN, hn1, hn2⟩ := hv.shape
  unfold maxLen at hn2
  have HV1 := hid (hv.below hb1)
  have HW1 := hid hw1
  have HB1 := hid hb1
  have HS1 := hid hs1
  have HK1 := hid hk1
  have hcutH : n > 3000 → ∃ ao', Hid (SeesB w1 (.slice ao' 3000 cv) (L.take 3000)) ∧ ∀ u : World, (Instr.sliceAt 22 (.slice av n cv) none (some (.int .i64 3000)) none).run Try.prog u = .ok (.slice ao' 3000 cv) u := fun h => HV1.out.high 3000 3000 rfl (by omega)
  have HCH := hid hcutH
  clear hw1 hb1 hs1 hk1 hv hcutH
  go_enter Try.func9, Try.ntmps9
  go_upto_region 1 with fail
  have e0 : w.alloc (.cells Z29 29) = w1 := HW1.out.symm
  unfold Z29 at e0
  rw [e0]
  clear e0
  go_upto_if 10 with fail
  go_cut [0] from 8 (fun p wx => ∃ x, x = wx ∧ (∃ a m c, p = .slice a m c) ∧ Hid (SeesB w1 p (L.take 3000)) ∧ x = w1)
  case first =>
    by_cases hn : 3000 < n
    · obtain ⟨ao', HS, hcut⟩ := HCH.out hn
      go_wp2_with fail
      go_meet
      case rel => exact ⟨_, rfl, ⟨_, _, _, rfl⟩, HS, rfl⟩
    · have HS : Hid (SeesB w1 (.slice av n cv) (L.take 3000)) := by
        unfold Hid; rw [List.take_of_length_le (by have := HN.out; omega)]; exact HV1.out
      go_wp2_with fail
      go_meet
      case rel => exact ⟨_, rfl, ⟨_, _, _, rfl⟩, HS, rfl⟩
  case rest =>
  obtain ⟨x, rfl, ⟨ap, np, cp, rfl⟩, HS, rfl⟩ := hcut
  go_wp2_with (at_builtin; refine wpList_append_bytes rfl _ _ rfl x.heap.size _ [] rfl (ownB_nil _ _) _ (L.take 3000) rfl HS.out ?c1 ?c2 ?_)
  case c1 => rw [List.length_take]; simp; omega
  case c2 => exact Nat.le_refl _
  intro v' w2 ho2 hb2
  obtain ⟨a2, c2, rfl⟩ := ho2.shape
  have HO2 := hid ho2
  have HB2 := hid hb2
  have HOP2 := hid (HOP.out w2)
  obtain ⟨n2, hn2'⟩ : ∃ n2, n2 = (L.take 3000).length := ⟨_, rfl⟩
  rw [← hn2'] at HO2 ⊢
  clear ho2 hb2 hn2' HOP
  go_wp2_with fail
  refine HOP2.out.mono ?_
  rintro _ w3 ⟨v3, rfl, ho3, hb3⟩
  obtain ⟨O, hO⟩ : ∃ O, O = optL (o % 6) := ⟨_, rfl⟩
  rw [← hO] at ho3
  obtain ⟨a3, c3, rfl⟩ := ho3.shape
  have HO3 := hid ho3
  have HB3 := hid hb3
  have HK3 := hid (below_keeps HB3.out (below_keeps HB2.out HK1.out (by have := HS1.out; omega)) (by have h1 := HS1.out; have h2 := HB2.out.size; omega))
  obtain ⟨zz, hzz⟩ : ∃ zz, zz = pkCells (wh o id) (.slice a3 O.length c3) (.slice a2 n2 c2) := ⟨_, rfl⟩
  have HZZ := hid hzz
  have HALL : Hid (zz.all (·.oneCell') = true) := by unfold Hid; rw [hzz]; exact all_pk _ _ _ _ _ _ _
  have HSZ : Hid (zz.size = 11) := by unfold Hid; rw [hzz]; rfl
  have HOE := hid hO
  clear ho3 hb3 hO hzz HOP2
  go_wp2_with (first | (refine wpList_st rfl 29 (.tmp 6) (.tmp 22) rfl w.heap.size zz rfl (by rw [HZZ.out]; rfl) 29 Z29 HK3.out (by rw [HSZ.out]; exact sz29) (by rw [HSZ.out]; rfl) HALL.out ?_) | fail)
  intro w5 hk5 hbut5
  rw [HZZ.out] at hk5
  have HL5 := hid (pk_var hk5)
  go_wp2_with fail
  refine bodyPost_ret (v := .agg (pkCells (wh o id) (.slice a3 O.length c3) (.slice a2 n2 c2))) (by simp [results, Try.results9, asAddr, HL5.out]) rfl ?_
  have hB3 : Below w.heap.size w w3 := HB1.out.trans ((HB2.out.trans (HB3.out.mono HB2.out.size)).mono HB1.out.size)
  refine ⟨_, _, rfl, ?_, ?_, hbut5.below hB3 hB3.size (Nat.le_refl _)⟩
  · show OwnB _ _ _ (optL (o % 6))
    rw [← HOE.out]
    exact OwnB.but (OwnB.low (b' := w.heap.size + 1) HO3.out (by have h1 := HS1.out; have h2 := HB2.out.size; omega)) hbut5 (by omega)
  · exact OwnB.but (OwnB.below (OwnB.low (b' := w.heap.size + 1) HO2.out (by have h1 := HS1.out; omega)) HB3.out) hbut5 (by omega)
end Go.Proofs.Ytdoeebbcieiimaa
