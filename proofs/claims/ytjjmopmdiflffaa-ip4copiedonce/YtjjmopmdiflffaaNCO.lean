import Derived.Test.YtjjmopmdiflffaaNCE
import Derived.Test.YtjjmopmdiflffaaNCB
import Derived.Test.YtjjmopmdiflffaaNBE
import Derived.Test.YtjjmopmdiflffaaNY
namespace Go.Proofs.Ytjjmopmdiflffaa.N
open Go.ChangeShapes Go.WideShapes Go.ChangeAt Go.RowKit
set_option maxHeartbeats 1000000
set_option maxRecDepth 100000

/-- A head of nothing but options. -/
def optH (o : List Nat) : Hd := ⟨0, 0, false, false, 0, 0, 0, 0, 0, o⟩

theorem optH_ok (o : List Nat) : (optH o).Ok := ⟨by show (0 : Nat) < 256; decide, by show (0 : Nat) < 65536; decide, by show (-9223372036854775808 : Int) ≤ 0 ∧ (0 : Int) ≤ 9223372036854775807; decide, by show (0 : Nat) < 256; decide, by show (0 : Nat) < 256; decide, by show (0 : Nat) < 4294967296; decide, by show (0 : Nat) < 4294967296; decide⟩

theorem optH_ref (o : List Nat) : refE (optH o) 0 = (M.copied o).2 := by
  unfold refE M.copied
  show (if M.area o then (if M.pieceOk 0 0 false then (if 20 + o.length + 0 ≤ 65535 then (0 : Int) else 37) else 36) else 34) = _
  cases h : M.area o with
  | false => rfl
  | true =>
    have := (area_len h).1
    rw [if_pos rfl, if_pos (by decide), if_pos (by omega)]
    rfl

theorem toy_copied : M.copied [131, 3, 4, 1, 7, 3, 4, 130, 4, 9, 9, 0] = ([131, 3, 4, 130, 4, 9, 9, 0], 0) := by
  have n1 : M.nxt [131, 3, 4, 1, 7, 3, 4, 130, 4, 9, 9, 0] = some 3 := M.nxt_good (by decide) (by decide) (by simp)
  have n2 : M.nxt [1, 7, 3, 4, 130, 4, 9, 9, 0] = some 1 := M.nxt_one _
  have n3 : M.nxt [7, 3, 4, 130, 4, 9, 9, 0] = some 3 := M.nxt_good (by decide) (by decide) (by simp)
  have n4 : M.nxt [130, 4, 9, 9, 0] = some 4 := M.nxt_good (by decide) (by decide) (by simp)
  have n5 : M.nxt [0] = some 1 := M.nxt_zero_ok (by decide)
  have o1 : M.okO [131, 3, 4, 1, 7, 3, 4, 130, 4, 9, 9, 0] = true := by
    rw [M.okO_some (by simp) n1]
    show M.okO [1, 7, 3, 4, 130, 4, 9, 9, 0] = true
    rw [M.okO_some (by simp) n2]
    show M.okO [7, 3, 4, 130, 4, 9, 9, 0] = true
    rw [M.okO_some (by simp) n3]
    show M.okO [130, 4, 9, 9, 0] = true
    rw [M.okO_some (by simp) n4]
    show M.okO [0] = true
    rw [M.okO_some (by simp) n5]
    exact M.okO_nil
  have c1 : M.cop [131, 3, 4, 1, 7, 3, 4, 130, 4, 9, 9, 0] = [131, 3, 4, 130, 4, 9, 9] := by
    rw [M.cop_some (by simp) n1]
    show [131, 3, 4] ++ M.cop [1, 7, 3, 4, 130, 4, 9, 9, 0] = _
    rw [M.cop_some (by simp) n2]
    show [131, 3, 4] ++ ([] ++ M.cop [7, 3, 4, 130, 4, 9, 9, 0]) = _
    rw [M.cop_some (by simp) n3]
    show [131, 3, 4] ++ ([] ++ ([] ++ M.cop [130, 4, 9, 9, 0])) = _
    rw [M.cop_some (by simp) n4]
    show [131, 3, 4] ++ ([] ++ ([] ++ ([130, 4, 9, 9] ++ M.cop [0]))) = _
    rw [M.cop_zero]
    rfl
  unfold M.copied M.area
  rw [o1, c1]
  rfl

theorem copiedOnce_walk (v : Value) (L : List Nat) (w : World) (hv : SeesB w v L) (hl : L.length ≤ 140737488355328) :
    Calls Try.prog 5 #[v] w fun e w' => e = .returned (.bool true) ∧ Below w.heap.size w w' := by
  obtain ⟨ao, n, cap, rfl, HN, hn1, hn2⟩ := hv.shape
  obtain ⟨w1, hw1⟩ : ∃ w1, w1 = w.alloc (.cells #[.int .u8 131, .int .u8 3, .int .u8 4, .int .u8 1, .int .u8 7, .int .u8 3, .int .u8 4, .int .u8 130, .int .u8 4, .int .u8 9, .int .u8 9, .int .u8 0] 5) := ⟨_, rfl⟩
  have hb1 : Below w.heap.size w w1 := by rw [hw1]; exact (Below.refl _ _).alloc (Nat.le_refl _) _
  have hblk : Blk w1 w.heap.size [131, 3, 4, 1, 7, 3, 4, 130, 4, 9, 9, 0] := by rw [hw1]; exact heap_alloc_new w _
  have hs1 : SeesB w1 (.slice (some ⟨w.heap.size, 0, none⟩) 12 12) [131, 3, 4, 1, 7, 3, 4, 130, 4, 9, 9, 0] := hblk.sees (by decide) 0 12 12 (by decide) (by decide) (by unfold maxLen; decide)
  have HC1 := copied_code _ _ w1 hs1
  rw [toy_copied] at HC1
  have HC1 := hid HC1
  have HS2 : Hid (∀ (u : World) (a : Value) (m : Nat), u.heap.size = m → SeesB u a [131, 3, 4, 130, 4, 9, 9, 0] → Calls Try.prog 15 #[a, .slice (some ⟨m, 0, none⟩) 8 8] (u.alloc (.cells #[.int .u8 131, .int .u8 3, .int .u8 4, .int .u8 130, .int .u8 4, .int .u8 9, .int .u8 9, .int .u8 0] 5)) fun e w' => e = .returned (.bool true) ∧ Below u.heap.size u w') := fun u a m hm ha => by
    subst hm
    obtain ⟨u1, hu1⟩ : ∃ u1, u1 = u.alloc (.cells #[.int .u8 131, .int .u8 3, .int .u8 4, .int .u8 130, .int .u8 4, .int .u8 9, .int .u8 9, .int .u8 0] 5) := ⟨_, rfl⟩
    have hb : Below u.heap.size u u1 := by rw [hu1]; exact (Below.refl _ _).alloc (Nat.le_refl _) _
    have hk : Blk u1 u.heap.size [131, 3, 4, 130, 4, 9, 9, 0] := by rw [hu1]; exact heap_alloc_new u _
    have hs : SeesB u1 (.slice (some ⟨u.heap.size, 0, none⟩) 8 8) [131, 3, 4, 130, 4, 9, 9, 0] := hk.sees (by decide) 0 8 8 (by decide) (by decide) (by unfold maxLen; decide)
    have := same_any a _ _ _ u1 (ha.below hb) hs
    rw [decide_eq_true rfl] at this
    rw [← hu1]
    refine this.mono ?_
    rintro e w' ⟨he, hb'⟩
    exact ⟨he, hb.trans (hb'.mono hb.size)⟩
  have HCP : Hid (∀ u, Below w.heap.size w u → Calls Try.prog 14 #[.slice ao n cap] u fun e w' => ∃ v', e = .returned (.tuple #[v', .int .i64 (M.copied L).2]) ∧ OwnB w' u.heap.size v' (M.copied L).1 ∧ Below u.heap.size u w') := fun u hu => copied_code _ L u (hv.below hu)
  have HBD : Hid (∀ u (a : Value) (A : List Nat), SeesB u a A → A.length ≤ 140737488355328 → Calls Try.prog 16 #[.agg #[.int .u8 0, .int .u16 0, .bool false, .bool false, .int .i64 0, .int .u8 0, .int .u8 0, .int .u32 0, .int .u32 0, a, .slice none 0 0]] u fun e w' => ∃ ao n cap, e = .returned (.tuple #[.slice ao n cap, .int .i64 (M.copied A).2]) ∧ Below u.heap.size u w') := fun u a A ha hl => by
    have := build_code (optH A) a (.slice none 0 0) [] u (optH_ok A) ha (sees_nil _) hl (by simp)
    rw [show refE (optH A) ([] : List Nat).length = (M.copied A).2 from optH_ref A] at this
    refine this.mono ?_
    rintro e w' ⟨ao, n, cap, he, _, hb⟩
    exact ⟨ao, n, cap, he, hb⟩
  have HVV := hid hv
  have HLL := hid hl
  have HBY := hid hv.bytes
  have HW1 := hid hw1
  have HB1 := hid hb1
  clear hw1 hb1 hblk hs1 hv hl
  go_enter Try.func5, Try.ntmps5
  go_wp2_with fail
  rw [← HW1.out]
  refine HC1.out.mono ?_
  rintro _ w2 ⟨va, rfl, ho2, hb2⟩
  have hs2 := ho2.sees (by decide)
  obtain ⟨a2, n2, c2, rfl, _, _, _⟩ := hs2.shape
  have HS := hid (HS2.out w2 _ _ rfl hs2)
  have HB2 := hid (HB1.out.trans (hb2.mono HB1.out.size))
  clear ho2 hb2 hs2 HS2 HC1
  go_wp2_with fail
  refine HS.out.mono ?_
  rintro _ w3 ⟨rfl, hb3⟩
  have hb03 := HB2.out.trans (hb3.mono HB2.out.size)
  have HC3 := hid (HCP.out w3 hb03)
  have HB3 := hid hb03
  clear hb3 hb03 HS HCP
  cases hA : M.area L with
  | false =>
    have hcp : M.copied L = ([], 34) := by unfold M.copied; rw [hA]; rfl
    rw [hcp] at HC3
    go_wp2_with fail
    refine HC3.out.mono ?_
    rintro _ w4 ⟨vb, rfl, ho4, hb4⟩
    have hs4 := ho4.sees (by simp)
    obtain ⟨a4, n4, c4, rfl, hn4, _, _⟩ := hs4.shape
    obtain rfl : n4 = 0 := hn4.out
    have hb04 := HB3.out.trans (hb4.mono HB3.out.size)
    have HBB := HBD.out w4 _ L (HVV.out.below hb04) HLL.out
    rw [hcp] at HBB
    have HBB := hid HBB
    have HB4 := hid hb04
    clear ho4 hs4 hb4 hb04 hA hcp hn4
    go_wp2_with fail
    refine HBB.out.mono ?_
    rintro _ w5 ⟨a5, n5, c5, rfl, hb5⟩
    go_wp2_with fail
    go_ret
    exact ⟨rfl, HB4.out.trans (hb5.mono HB4.out.size)⟩
  | true =>
    have hcp : M.copied L = (M.pad (M.cop L), 0) := by unfold M.copied; rw [hA]; rfl
    obtain ⟨c, z, hpad, hch, hz, h4, hle, har, hpp⟩ := M.copied_once hA
    have hcp2 : M.copied (M.pad (M.cop L)) = (M.pad (M.cop L), 0) := by
      unfold M.copied; rw [har, hpp]; rfl
    have h40 := (area_len hA).1
    have HPB : Hid (∀ x ∈ M.pad (M.cop L), x < 256) := fun x hx => by
      unfold M.pad at hx
      rcases List.mem_append.1 hx with hx | hx
      · exact HBY.out x (M.cop_mem _ L (Nat.le_refl _) x hx)
      · rw [(List.mem_replicate.1 hx).2]; decide
    have HPL : Hid ((M.pad (M.cop L)).length ≤ n) := by
      unfold Hid; rw [hpad, List.length_append, List.length_replicate, HN.out]; exact hle
    have HP40 : Hid ((M.pad (M.cop L)).length ≤ 40) := by
      have := HPL.out; have := HN.out; unfold Hid; omega
    have HEA : Hid (∀ (u : World) (a : Value), SeesB u a (M.pad (M.cop L)) → Calls Try.prog 17 #[a] u fun e w' => e = .returned (.bool true) ∧ w' = u) := fun u a ha =>
      each_any a c z u (hpad ▸ ha) hch hz h4 (by omega)
    rw [hcp] at HC3
    generalize hD : M.pad (M.cop L) = D at *
    have HCP2 : Hid (M.copied D = (D, 0)) := hcp2
    have HCPL : Hid (M.copied L = (D, 0)) := hcp
    clear hA hcp hcp2 hpad hch hz h4 hle har hpp h40 hD
    go_wp2_with fail
    refine HC3.out.mono ?_
    rintro _ w4 ⟨vb, rfl, ho4, hb4⟩
    have hs4 := ho4.sees HPB.out
    obtain ⟨a4, n4, c4, rfl, HN4, _, _⟩ := hs4.shape
    have hn4 : n4 ≤ n := by have := HPL.out; have := HN4.out; omega
    have hb04 := HB3.out.trans (hb4.mono HB3.out.size)
    have HBB := HBD.out w4 _ L (HVV.out.below hb04) HLL.out
    rw [HCPL.out] at HBB
    have HBB := hid HBB
    have HB4 := hid hb04
    have HS4 := hid hs4
    clear ho4 hs4 hb4 hb04 HC3
    go_wp2_with fail
    refine HBB.out.mono ?_
    rintro _ w5 ⟨a5, n5, c5, rfl, hb5⟩
    have hb05 := HB4.out.trans (hb5.mono HB4.out.size)
    have HC5 := copied_code _ D w5 (HS4.out.below hb5)
    rw [HCP2.out] at HC5
    have HC5 := hid HC5
    have HB45 := hid hb5
    have HB5 := hid hb05
    clear hb5 hb05 HBB
    go_wp2_with fail
    refine HC5.out.mono ?_
    rintro _ w6 ⟨v6, rfl, ho6, hb6⟩
    have hs6 := ho6.sees HPB.out
    obtain ⟨a6, n6, c6, rfl, _, _, _⟩ := hs6.shape
    have hb46 := HB45.out.trans (hb6.mono HB45.out.size)
    have hb06 := HB5.out.trans (hb6.mono HB5.out.size)
    have HBB := HBD.out w6 _ D (HS4.out.below hb46) (by have := HP40.out; omega)
    rw [HCP2.out] at HBB
    have HBB := hid HBB
    have HS6 := hid hs6
    have HB46 := hid hb46
    have HB6 := hid hb06
    clear ho6 hs6 hb6 hb46 hb06 HC5
    go_wp2_with fail
    refine HBB.out.mono ?_
    rintro _ w7 ⟨a7, n7, c7, rfl, hb7⟩
    have hb47 := HB46.out.trans (hb7.mono HB46.out.size)
    have hb07 := HB6.out.trans (hb7.mono HB6.out.size)
    have HSA := same_any _ _ D D w7 (HS4.out.below hb47) (HS6.out.below hb7)
    rw [decide_eq_true rfl] at HSA
    have HSA := hid HSA
    have HB47 := hid hb47
    have HB7 := hid hb07
    clear hb47 hb07 hb7 HBB
    go_wp2_with fail
    refine HSA.out.mono ?_
    rintro _ w8 ⟨rfl, hb8⟩
    have HEE := hid (HEA.out w8 _ (HS4.out.below (HB47.out.trans (hb8.mono HB47.out.size))))
    have HB8 := hid (HB7.out.trans (hb8.mono HB7.out.size))
    clear hb8 HSA
    go_wp2_with fail
    refine HEE.out.mono ?_
    rintro _ _ ⟨rfl, rfl⟩
    go_wp2_with fail
    go_ret
    exact ⟨rfl, HB8.out⟩
end Go.Proofs.Ytjjmopmdiflffaa.N
