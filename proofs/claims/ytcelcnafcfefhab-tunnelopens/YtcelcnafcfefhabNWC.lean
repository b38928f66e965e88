import Derived.Test.YtcelcnafcfefhabNWB
import Derived.Test.YtcelcnafcfefhabNZB
namespace Go.Proofs.Ytcelcnafcfefhab.N
open Go.ChangeShapes Go.WideShapes Go.ChangeAt Go.RowKit
set_option maxHeartbeats 1000000
set_option maxRecDepth 100000

theorem hdE_ok {H : List Nat} {nb : Nat} (h : hdE H nb = 0) : M.csum H = 0 ∧ byt H 6 < 128 ∧ M.area (H.drop 20) = true ∧ M.pieceOk ((w16 H 6 % 8192 * 8 : Nat) : Int) nb (decide (byt H 6 / 32 % 2 = 1)) = true := by
  unfold hdE at h
  by_cases c1 : M.csum H = 0
  · rw [if_neg (by simp [c1])] at h
    by_cases c2 : 128 ≤ byt H 6
    · rw [if_pos c2] at h; cases h
    · rw [if_neg c2] at h
      cases c3 : M.area (H.drop 20)
      · rw [c3, if_pos rfl] at h; cases h
      · rw [c3, if_neg (by simp)] at h
        cases c4 : M.pieceOk ((w16 H 6 % 8192 * 8 : Nat) : Int) nb (decide (byt H 6 / 32 % 2 = 1))
        · rw [c4, if_pos rfl] at h; cases h
        · exact ⟨c1, by omega, rfl, rfl⟩
  · rw [if_pos c1] at h; cases h

theorem w32_lt {L : List Nat} (h : ∀ x ∈ L, x < 256) (i : Nat) : w32 L i < 4294967296 := by
  have h1 := w16_lt h i
  have h2 := w16_lt h (i + 2)
  unfold w32; omega

/-- The block that is being filled, at the heap's end of w5; three cells that are read. -/
structure Tgt (w5 u : World) : Prop where
  below : Below w5.heap.size w5 u
  row : ∃ cells : Array Value, u.heap[w5.heap.size]? = some (.cells cells 77 (0, 0)) ∧ cells.size = 11 ∧ cells[10]? = some (.slice none 0 0)

theorem tgt_drew {w5 u : World} {p q r : Addr} {a b c : Value} (h : Tgt w5 u ∧ u.cell? p = some a ∧ u.cell? q = some b ∧ u.cell? r = some c) : Tgt w5 u.drew ∧ u.drew.cell? p = some a ∧ u.drew.cell? q = some b ∧ u.drew.cell? r = some c := ⟨⟨below_drew h.1.below, h.1.row⟩, h.2.1, h.2.2.1, h.2.2.2⟩

theorem tgt_grow {w5 u u' : World} {p q r : Addr} {a b c : Value} (h : Tgt w5 u ∧ u.cell? p = some a ∧ u.cell? q = some b ∧ u.cell? r = some c) (hb : Below u.heap.size u u') : Tgt w5 u' ∧ u'.cell? p = some a ∧ u'.cell? q = some b ∧ u'.cell? r = some c := by
  obtain ⟨h, e1, e2, e3⟩ := h
  obtain ⟨cells, h1, h2, h3⟩ := h.row
  have hlt : w5.heap.size < u.heap.size := (Array.getElem?_eq_some_iff.1 h1).1
  exact ⟨⟨h.below.trans (hb.mono h.below.size), cells, (hb.block _ hlt).trans h1, h2, h3⟩, (hb.cell (World.block_lt_of_cell? u _ e1)).trans e1, (hb.cell (World.block_lt_of_cell? u _ e2)).trans e2, (hb.cell (World.block_lt_of_cell? u _ e3)).trans e3⟩

theorem tgt_cells {w5 u : World} (h : Tgt w5 u) : (∃ y, u.cell? ⟨w5.heap.size, 0, none⟩ = some y) ∧ (∃ y, u.cell? ⟨w5.heap.size, 1, none⟩ = some y) ∧ (∃ y, u.cell? ⟨w5.heap.size, 2, none⟩ = some y) ∧ (∃ y, u.cell? ⟨w5.heap.size, 3, none⟩ = some y) ∧ (∃ y, u.cell? ⟨w5.heap.size, 4, none⟩ = some y) ∧ (∃ y, u.cell? ⟨w5.heap.size, 5, none⟩ = some y) ∧ (∃ y, u.cell? ⟨w5.heap.size, 6, none⟩ = some y) ∧ (∃ y, u.cell? ⟨w5.heap.size, 7, none⟩ = some y) ∧ (∃ y, u.cell? ⟨w5.heap.size, 8, none⟩ = some y) ∧ (∃ y, u.cell? ⟨w5.heap.size, 9, none⟩ = some y) ∧ ∀ j, u.frozen? ⟨w5.heap.size, j, none⟩ = false := by
  obtain ⟨cells, h1, h2, h3⟩ := h.row
  have k : ∀ i, i < 11 → ∃ y, u.cell? ⟨w5.heap.size, i, none⟩ = some y := fun i hi => by
    rw [cell_of_row _ _ _ _ _ _ h1]
    exact ⟨_, Array.getElem?_eq_getElem (by omega)⟩
  exact ⟨k 0 (by omega), k 1 (by omega), k 2 (by omega), k 3 (by omega), k 4 (by omega), k 5 (by omega), k 6 (by omega), k 7 (by omega), k 8 (by omega), k 9 (by omega), fun j => frozen_of_row _ _ _ _ _ h1⟩

theorem tgt_set {w5 u : World} {g o1 o2 o3 j : Nat} {a b c v : Value} (h : Tgt w5 u ∧ u.cell? ⟨g, o1, none⟩ = some a ∧ u.cell? ⟨g, o2, none⟩ = some b ∧ u.cell? ⟨g, o3, none⟩ = some c) (hg : g ≠ w5.heap.size) (hj : j ≠ 10) :
    Tgt w5 (u.setCell ⟨w5.heap.size, j, none⟩ v) ∧ (u.setCell ⟨w5.heap.size, j, none⟩ v).cell? ⟨g, o1, none⟩ = some a ∧ (u.setCell ⟨w5.heap.size, j, none⟩ v).cell? ⟨g, o2, none⟩ = some b ∧ (u.setCell ⟨w5.heap.size, j, none⟩ v).cell? ⟨g, o3, none⟩ = some c := by
  obtain ⟨h, e1, e2, e3⟩ := h
  obtain ⟨cells, h1, h2, h3⟩ := h.row
  have hne : ∀ o, (u.setCell ⟨w5.heap.size, j, none⟩ v).cell? ⟨g, o, none⟩ = u.cell? ⟨g, o, none⟩ := fun o => World.cell?_setCells_out w5.heap.size [v] j u ⟨g, o, none⟩ (fun hb _ => absurd hb hg)
  refine ⟨⟨h.below.setCell (p := ⟨w5.heap.size, j, none⟩) (Nat.le_refl _) v, cells.setIfInBounds j v, ?_, by simp [h2], ?_⟩, (hne _).trans e1, (hne _).trans e2, (hne _).trans e3⟩
  · simp [World.setCell, Array.getElem?_modify, h1]
  · rw [Array.getElem?_setIfInBounds_ne hj]; exact h3

theorem Tgt.there {w5 u : World} (h : Tgt w5 u) : u.there w5.heap.size 0 10 := by
  obtain ⟨cells, h1, h2, h3⟩ := h.row
  intro i hi
  refine ⟨?_, by rw [Nat.zero_add]; exact frozen_of_row _ _ _ _ _ h1⟩
  rw [Nat.zero_add, cell_of_row _ _ _ _ _ _ h1, Array.getElem?_eq_getElem (by omega)]; rfl

theorem sees_setAt {w : World} {ao : Option Addr} {n cap b k : Nat} {L : List Nat} {x : Value} (h : SeesB w (.slice ao n cap) L) (hne : ∀ a, ao = some a → a.block ≠ b) : SeesB (w.setCell ⟨b, k, none⟩ x) (.slice ao n cap) L := by
  obtain ⟨ao', cap', hv, h1, h2, h3⟩ := h
  simp at hv
  obtain ⟨rfl, hn, rfl⟩ := hv
  refine ⟨ao, cap, by rw [hn], h1, h2, fun j hj => ?_⟩
  obtain ⟨g, off, ha, hg, hc, hb⟩ := h3 j hj
  have hg' := hne _ ha
  have e : (w.setCell ⟨b, k, none⟩ x).cell? ⟨g, off + j, none⟩ = _ := World.cell?_setCells_out b [x] k w ⟨g, off + j, none⟩ (fun hb _ => absurd hb hg')
  exact ⟨g, off, ha, World.block_lt_of_cell? _ ⟨g, off + j, none⟩ (e.trans hc), e.trans hc, hb⟩

set_option maxHeartbeats 4000000 in
theorem read_good (v : Value) (L : List Nat) (whole : Bool) (w : World) (hv : SeesB w v L) (hl : L.length ≤ 140737488355328) (he : (exam L whole).2.2 = 0) :
    Calls Try.prog 79 #[v, .bool whole] w fun e w' => ∃ vo vb, e = .returned (.tuple #[.agg (pkCells (rdH (L.take (exam L whole).2.1) (exam L whole).1) vo vb), .int .i64 0]) ∧ SeesB w' vo (rdH (L.take (exam L whole).2.1) (exam L whole).1).opts ∧ SeesB w' vb ((L.take (exam L whole).2.1).drop (exam L whole).1) ∧ (∀ a n c, vo = .slice (some a) n c → w.heap.size ≤ a.block) ∧ (∀ a n c, vb = .slice (some a) n c → w.heap.size ≤ a.block) ∧ Below w.heap.size w w' := by
  obtain ⟨e1, e2, e3⟩ := exam_ok he
  obtain ⟨a1, a2, a3, a4, a5, a6, a7⟩ := lens_ok e1
  obtain ⟨k1, k2, k3, k4⟩ := hdE_ok e2
  rw [e3]
  obtain ⟨w1, hw1⟩ : ∃ w1, w1 = (w.alloc (.cells Z29 77)).alloc (.cells Z29 77) := ⟨_, rfl⟩
  have hs1 : w1.heap.size = w.heap.size + 2 := by rw [hw1]; simp
  have hb1 : Below w.heap.size w w1 := by rw [hw1]; exact ((Below.refl _ _).alloc (Nat.le_refl _) _).alloc (by simp) _
  have HENDS : Hid (∀ u, Below (w.heap.size + 2) w1 u → Ends w Z29 u) := fun u hu => by rw [hw1] at hu; exact ends_any hu
  have HLEN := hid (lens_ref v L whole w1 (hv.below hb1) hl)
  obtain ⟨ao, n, cap, rfl, HN, hn1, hn2⟩ := hv.shape
  have HBY := hid hv.bytes
  unfold maxLen at hn2
  have HW1 : Hid (w1 = (w.alloc (.cells #[.int .u8 0, .int .u16 0, .bool false, .bool false, .int .i64 0, .int .u8 0, .int .u8 0, .int .u32 0, .int .u32 0, .slice none 0 0, .slice none 0 0] 77)).alloc (.cells #[.int .u8 0, .int .u16 0, .bool false, .bool false, .int .i64 0, .int .u8 0, .int .u8 0, .int .u32 0, .int .u32 0, .slice none 0 0, .slice none 0 0] 77)) := hw1
  have HS1 := hid hs1
  have HB1 := hid hb1
  have HSV := hid hv
  have hl16 := w16_lt HBY.out 2
  rw [← a7] at hl16
  rw [e1, HS1.out] at HLEN
  clear hw1 hs1 hb1 hv he e1 e2 e3 a5 a6 a7
  generalize lens L whole = t at *
  obtain ⟨h, l, z⟩ := t
  simp only at *
  rw [byt_take (by omega)] at k2 k4
  rw [show w16 (L.take h) 6 = w16 L 6 by unfold w16; rw [byt_take (by omega), byt_take (by omega)]] at k4
  have hln : h ≤ n := by have := HN.out; omega
  obtain ⟨l', hl'⟩ : ∃ l', l' = min l n := ⟨_, rfl⟩
  have hhl' : h ≤ l' := by omega
  have hl'n : l' ≤ n := by omega
  have HRD : Hid (rdH (L.take l) h = ⟨byt L 1, w16 L 4, decide (byt L 6 / 64 % 2 = 1), decide (byt L 6 / 32 % 2 = 1), ((w16 L 6 % 8192 * 8 : Nat) : Int), byt L 8, byt L 9, w32 L 12, w32 L 16, (L.take h).drop 20⟩) := by
    have e : ∀ i, i < 20 → byt (L.take l) i = byt L i := fun i hi => byt_take (by omega)
    unfold Hid rdH w32 w16
    simp only [e 1 (by omega), e 4 (by omega), e 5 (by omega), e 6 (by omega), e 7 (by omega), e 8 (by omega), e 9 (by omega), e 12 (by omega), e 13 (by omega), e 14 (by omega), e 15 (by omega), e 16 (by omega), e 17 (by omega), e 18 (by omega), e 19 (by omega), List.take_take, Nat.min_eq_left a4]
  have HBD : Hid (L.take l = L.take l') := by
    unfold Hid
    rcases Nat.le_total l n with g | g
    · rw [hl', Nat.min_eq_left g]
    · rw [hl', Nat.min_eq_right g, List.take_of_length_le (by have := HN.out; omega), List.take_of_length_le (by have := HN.out; omega)]
  rw [HRD.out, HBD.out]
  clear HRD HBD
  obtain ⟨ah, HSH, hhigh⟩ := HSV.out.high h (h : Int) rfl hln
  obtain ⟨g, off, rfl, hg, hc6⟩ := HSV.out.atB 6 (by omega)
  obtain ⟨g', off', hgg, _, hc1⟩ := HSV.out.atB 1 (by omega)
  cases hgg
  obtain ⟨g', off', hgg, _, hc8⟩ := HSV.out.atB 8 (by omega)
  cases hgg
  obtain ⟨g', off', hgg, _, hc9⟩ := HSV.out.atB 9 (by omega)
  cases hgg
  obtain ⟨am, HSM, hmid⟩ := HSV.out.mid 20 h 20 (h : Int) rfl rfl a1 hln
  obtain ⟨an, HSN, hmid2⟩ := HSV.out.mid h l' (h : Int) (l' : Int) rfl rfl hhl' hl'n
  have HBW : Hid (∀ u, Below (w.heap.size + 2) w1 u → Below w.heap.size w u) := fun u hu => HB1.out.trans (hu.mono (by omega))
  have HC6 : Hid (∀ u, Below (w.heap.size + 2) w1 u → u.cell? ⟨g, off + 6, none⟩ = some (.int .u8 (byt L 6 : Int))) := fun u hu => ((HBW.out _ hu).cell (p := ⟨g, _, none⟩) hg).trans hc6
  have HC1 : Hid (∀ u, Below (w.heap.size + 2) w1 u → u.cell? ⟨g, off + 1, none⟩ = some (.int .u8 (byt L 1 : Int))) := fun u hu => ((HBW.out _ hu).cell (p := ⟨g, _, none⟩) hg).trans hc1
  have HC8 : Hid (∀ u, Below (w.heap.size + 2) w1 u → u.cell? ⟨g, off + 8, none⟩ = some (.int .u8 (byt L 8 : Int))) := fun u hu => ((HBW.out _ hu).cell (p := ⟨g, _, none⟩) hg).trans hc8
  have HC9 : Hid (∀ u, Below (w.heap.size + 2) w1 u → u.cell? ⟨g, off + 9, none⟩ = some (.int .u8 (byt L 9 : Int))) := fun u hu => ((HBW.out _ hu).cell (p := ⟨g, _, none⟩) hg).trans hc9
  have hx6 := byt_lt HBY.out 6
  have hw6 := w16_lt HBY.out 6
  have HSUM : Hid (∀ u, Below (w.heap.size + 2) w1 u → Calls Try.prog 73 #[.slice (some ⟨u.heap.size, 0, none⟩) 1 1] (u.alloc (.cells #[.slice ah h cap] 29)) fun e w' => e = .returned (.int .u16 0) ∧ Below (w.heap.size + 2) w1 w') := fun u hu => by
    have := sum_ref _ _ _ (seesBB_one rfl _ _ (HSH.out.below (HBW.out _ hu)) 29) (by simp; omega)
    rw [show [L.take h].flatten = L.take h by simp, k1] at this
    refine this.mono ?_
    rintro e w' ⟨rfl, hb⟩
    have hsz := hu.size
    rw [HS1.out] at hsz
    exact ⟨rfl, (hu.alloc (by omega) _).trans (hb.mono (by simp; omega))⟩
  have HAREA : Hid (∀ u, Below (w.heap.size + 2) w1 u → Calls Try.prog 87 #[.slice am (h - 20) (cap - 20)] u fun e w' => e = .returned (.bool true) ∧ u = w') := fun u hu => by
    have := area_ref _ _ u (HSM.out.below (HBW.out _ hu))
    rw [k3] at this
    exact this.mono fun e w' ⟨a, b⟩ => ⟨a, b.symm⟩
  have HTWO6 : Hid (∀ (u : World), Below (w.heap.size + 2) w1 u → Calls Try.prog 95 #[.slice (some ⟨g, off, none⟩) n cap, .int .i64 6] u fun e w' => e = .returned (.int .i64 ((w16 L 6 : Nat) : Int)) ∧ w' = u.drew) := fun u hu =>
    two_x _ 6 6 L u (HSV.out.below (HBW.out _ hu)) rfl (by have := HN.out; omega) (by omega)
  have HTWO4 : Hid (∀ (u : World), Below (w.heap.size + 2) w1 u → Calls Try.prog 95 #[.slice (some ⟨g, off, none⟩) n cap, .int .i64 4] u fun e w' => e = .returned (.int .i64 ((w16 L 4 : Nat) : Int)) ∧ w' = u.drew) := fun u hu =>
    two_x _ 4 4 L u (HSV.out.below (HBW.out _ hu)) rfl (by have := HN.out; omega) (by omega)
  have HFOUR : Hid (∀ (i : Int) (x : Nat), ((i = 12 ∧ x = w32 L 12) ∨ (i = 16 ∧ x = w32 L 16)) → ∀ (u : World), Below (w.heap.size + 2) w1 u → Calls Try.prog 96 #[.slice (some ⟨g, off, none⟩) n cap, .int .i64 i] u fun e w' => e = .returned (.int .i64 (x : Int)) ∧ w' = u.drew.drew) := by
    rintro i x (⟨rfl, rfl⟩ | ⟨rfl, rfl⟩) u hu
    · exact four_x _ 12 12 L u (HSV.out.below (HBW.out _ hu)) rfl (by have := HN.out; omega) (by omega)
    · exact four_x _ 16 16 L u (HSV.out.below (HBW.out _ hu)) rfl (by have := HN.out; omega) (by omega)
  have HPC : Hid (∀ (i j : Int) (b : Bool) (u : World), i = ((w16 L 6 % 8192 * 8 : Nat) : Int) → j = ((l - h : Nat) : Int) → b = decide (byt L 6 / 32 % 2 = 1) → Calls Try.prog 88 #[.int .i64 i, .int .i64 j, .bool b] u fun e w' => e = .returned (.bool true) ∧ u = w') := fun i j b u hi hj hb => by
    subst hi hj hb
    have := piece_ref ((w16 L 6 % 8192 * 8 : Nat) : Int) (l - h) (decide (byt L 6 / 32 % 2 = 1)) u ⟨by omega, by omega⟩ (by omega)
    rw [k4] at this
    exact this.mono fun e w' ⟨a, b⟩ => ⟨a, b.symm⟩
  have HCL : Hid (∀ u, Below (w.heap.size + 2) w1 u → Calls Try.prog 97 #[.slice am (h - 20) (cap - 20)] u fun e w' => ∃ v', e = .returned v' ∧ OwnB w' u.heap.size v' ((L.take h).drop 20) ∧ Below u.heap.size u w') := fun u hu =>
    clone_any _ _ u (HSM.out.below (HBW.out _ hu)) (by simp; omega)
  have HCM : Hid (∀ u, Below (w.heap.size + 2) w1 u → Calls Try.prog 97 #[.slice an (l' - h) (cap - h)] u fun e w' => ∃ v', e = .returned v' ∧ OwnB w' u.heap.size v' ((L.take l').drop h) ∧ Below u.heap.size u w') := fun u hu =>
    clone_any _ _ u (HSN.out.below (HBW.out _ hu)) (by simp; omega)
  have b6 : (6 : Int) < (n : Int) := by omega
  have HB5 : Hid (byt L 6 < 128) := k2
  clear k1 k3 k4 hc6 hc1 hc8 hc9 HSM HSN HSH
  have HX1 := byt_lt HBY.out 1
  have HX8 := byt_lt HBY.out 8
  have HX9 := byt_lt HBY.out 9
  have HX4 := w16_lt HBY.out 4
  have HX12 := w32_lt HBY.out 12
  have HX16 := w32_lt HBY.out 16
  have hqd := bit6 (byt L 6) k2
  have hqm := bit5 (byt L 6)
  obtain ⟨o8, ho8⟩ : ∃ o8 : Nat, o8 = w16 L 6 % 8192 * 8 := ⟨_, rfl⟩
  rw [← ho8] at HPC ⊢
  have HO8 : Hid (8 * ((w16 L 6 : Int) % 8192) = (o8 : Int)) := by unfold Hid; omega
  clear ho8
  generalize decide (byt L 6 / 64 % 2 = 1) = qd at *
  generalize decide (byt L 6 / 32 % 2 = 1) = qm at *
  generalize byt L 6 = x6 at *
  generalize w16 L 6 = f6 at *
  generalize byt L 1 = x1 at *
  generalize byt L 8 = x8 at *
  generalize byt L 9 = x9 at *
  generalize w16 L 4 = id at *
  generalize w32 L 12 = src at *
  generalize w32 L 16 = dst at *
  go_enter Try.func79, Try.ntmps79
  go_upto_region 2 with fail
  rw [← HW1.out]
  go_wp2_with fail
  refine HLEN.out.mono ?_
  rintro _ w2 ⟨rfl, hb2⟩
  go_wp2_with fail
  refine (HSUM.out _ hb2).mono ?_
  rintro _ w3 ⟨rfl, hb3⟩
  have c6 := HC6.out _ hb3
  go_wp2_with fail
  refine (HAREA.out _ hb3).mono ?_
  rintro _ _ ⟨rfl, rfl⟩
  go_wp2_with fail
  refine (HTWO6.out _ hb3).mono ?_
  rintro _ _ ⟨rfl, rfl⟩
  go_wp2_with fail
  refine (HPC.out _ _ _ _ ?_ ?_ ?_).mono ?_
  · exact HO8.out
  · omega
  · rfl
  rintro _ _ ⟨rfl, rfl⟩
  have hb5 := below_drew hb3
  clear hb2 HSUM HLEN HAREA HPC HC6 c6
  generalize w3.drew = w5 at *
  go_upto_if 62 with fail
  go_cut [8] from 59 (fun p wx => p = .int .i64 (l' : Int) ∧ w5 = wx)
  case first =>
    by_cases hq : l ≤ n
    · have HLL : Hid ((l : Int) = (l' : Int)) := by unfold Hid; omega
      have hq' : (l : Int) ≤ (n : Int) := by omega
      clear hl' hq
      go_wp2_with fail
      go_meet
      case rel => exact ⟨by rw [HLL.out], rfl⟩
    · have HLL : Hid ((n : Int) = (l' : Int)) := by unfold Hid; omega
      have hq' : (n : Int) < (l : Int) := by omega
      clear hl' hq
      go_wp2_with fail
      go_meet
      case rel => exact ⟨by rw [HLL.out], rfl⟩
  case rest =>
    obtain ⟨rfl, rfl⟩ := hcut
    clear hl'
    obtain ⟨w6, hw6'⟩ : ∃ w6, w6 = w5.alloc (.cells Z29 77) := ⟨_, rfl⟩
    have hT6 : (Tgt w5 w6 ∧ w6.cell? ⟨g, off + 1, none⟩ = some (.int .u8 (x1 : Int)) ∧ w6.cell? ⟨g, off + 8, none⟩ = some (.int .u8 (x8 : Int)) ∧ w6.cell? ⟨g, off + 9, none⟩ = some (.int .u8 (x9 : Int))) := by
      have hsz := hb5.size
      rw [HS1.out] at hsz
      have hb6 : Below (w.heap.size + 2) w1 w6 := by rw [hw6']; exact hb5.alloc (by omega) _
      exact ⟨⟨by rw [hw6']; exact (Below.refl _ _).alloc (Nat.le_refl _) _, Z29, by rw [hw6']; exact heap_alloc_new w5 _, rfl, rfl⟩, HC1.out _ hb6, HC8.out _ hb6, HC9.out _ hb6⟩
    have HBT : Hid (∀ u, (Tgt w5 u ∧ u.cell? ⟨g, off + 1, none⟩ = some (.int .u8 (x1 : Int)) ∧ u.cell? ⟨g, off + 8, none⟩ = some (.int .u8 (x8 : Int)) ∧ u.cell? ⟨g, off + 9, none⟩ = some (.int .u8 (x9 : Int))) → Below (w.heap.size + 2) w1 u) := fun u hu => by
      have hsz := hb5.size
      rw [HS1.out] at hsz
      exact hb5.trans (hu.1.below.mono (by omega))
    have HCT : Hid (∀ u, (Tgt w5 u ∧ u.cell? ⟨g, off + 1, none⟩ = some (.int .u8 (x1 : Int)) ∧ u.cell? ⟨g, off + 8, none⟩ = some (.int .u8 (x8 : Int)) ∧ u.cell? ⟨g, off + 9, none⟩ = some (.int .u8 (x9 : Int))) → Calls Try.prog 95 #[.slice (some ⟨g, off, none⟩) n cap, .int .i64 4] u fun e w' => e = .returned (.int .i64 ((id : Nat) : Int)) ∧ w' = u.drew) := fun u hu => HTWO4.out u (HBT.out _ hu)
    have HCF : Hid (∀ (i : Int) (x : Nat), ((i = 12 ∧ x = src) ∨ (i = 16 ∧ x = dst)) → ∀ u, (Tgt w5 u ∧ u.cell? ⟨g, off + 1, none⟩ = some (.int .u8 (x1 : Int)) ∧ u.cell? ⟨g, off + 8, none⟩ = some (.int .u8 (x8 : Int)) ∧ u.cell? ⟨g, off + 9, none⟩ = some (.int .u8 (x9 : Int))) → Calls Try.prog 96 #[.slice (some ⟨g, off, none⟩) n cap, .int .i64 i] u fun e w' => e = .returned (.int .i64 (x : Int)) ∧ w' = u.drew.drew) := fun i x hx u hu => HFOUR.out i x hx u (HBT.out _ hu)
    have HCC : Hid (∀ u, (Tgt w5 u ∧ u.cell? ⟨g, off + 1, none⟩ = some (.int .u8 (x1 : Int)) ∧ u.cell? ⟨g, off + 8, none⟩ = some (.int .u8 (x8 : Int)) ∧ u.cell? ⟨g, off + 9, none⟩ = some (.int .u8 (x9 : Int))) → Calls Try.prog 97 #[.slice am (h - 20) (cap - 20)] u fun e w' => ∃ a' n' c', e = .returned (.slice a' n' c') ∧ Hid (SeesB w' (.slice a' n' c') ((L.take h).drop 20) ∧ ∀ x, a' = some x → w5.heap.size < x.block) ∧ (Tgt w5 w' ∧ w'.cell? ⟨g, off + 1, none⟩ = some (.int .u8 (x1 : Int)) ∧ w'.cell? ⟨g, off + 8, none⟩ = some (.int .u8 (x8 : Int)) ∧ w'.cell? ⟨g, off + 9, none⟩ = some (.int .u8 (x9 : Int)))) := fun u hu => by
      refine (HCL.out u (HBT.out _ hu)).mono ?_
      rintro e w' ⟨v', rfl, hO, hb⟩
      have hs := hO.sees (fun x hx => HBY.out x (List.mem_of_mem_take (List.mem_of_mem_drop hx)))
      obtain ⟨cells, r1, r2, r3⟩ := hu.1.row
      have hlt : w5.heap.size < u.heap.size := (Array.getElem?_eq_some_iff.1 r1).1
      obtain ⟨a', n', c', rfl, _, _, _⟩ := hs.shape
      refine ⟨a', n', c', rfl, ⟨hs, fun x hx => ?_⟩, tgt_grow hu hb⟩
      subst hx
      rcases hO.2 with ⟨hh, _⟩ | ⟨gg, cc, cur, hh, hbg, _⟩
      · cases hh
      · cases hh; show _ < gg; omega
    have b1 : (1 : Int) < (n : Int) := by omega
    have b8 : (8 : Int) < (n : Int) := by omega
    have b9 : (9 : Int) < (n : Int) := by omega
    have HW6 : Hid (w6 = w5.alloc (.cells #[.int .u8 0, .int .u16 0, .bool false, .bool false, .int .i64 0, .int .u8 0, .int .u8 0, .int .u32 0, .int .u32 0, .slice none 0 0, .slice none 0 0] 77)) := hw6'
    have HTH : Hid (∀ u, (Tgt w5 u ∧ u.cell? ⟨g, off + 1, none⟩ = some (.int .u8 (x1 : Int)) ∧ u.cell? ⟨g, off + 8, none⟩ = some (.int .u8 (x8 : Int)) ∧ u.cell? ⟨g, off + 9, none⟩ = some (.int .u8 (x9 : Int))) → u.there w5.heap.size 0 10) := fun u hu => hu.1.there
    have HGN : Hid (g ≠ w5.heap.size) := by have := hb5.size; unfold Hid; rw [HS1.out] at this; omega
    have ewu : ∀ z : Int, 0 ≤ z → z ≤ 4294967295 → IntKind.u32.wrap z = z := fun z h0 h1 => by
      unfold IntKind.wrap
      simp [IntKind.signed, IntKind.bits]
      omega
    have HE7 : Hid (IntKind.u32.wrap (src : Int) = (src : Int)) := ewu _ (by omega) (by omega)
    have HE8 : Hid (IntKind.u32.wrap (dst : Int) = (dst : Int)) := ewu _ (by omega) (by omega)
    have HE1 : Hid (IntKind.u16.wrap (id : Int) = (id : Int)) := by
      unfold Hid IntKind.wrap
      simp [IntKind.signed, IntKind.bits]
      omega
    have HE3 : Hid ((((x6 : Int) / 32).tmod 2 == 1) = qm) := by
      unfold Hid
      rw [Int.tmod_eq_emod_of_nonneg (by omega)]
      exact hqm
    have HE2 : Hid ((IntKind.i64.wrap (((x6 : Int) / 32).tdiv 2) == 1) = qd) := by
      unfold Hid
      rw [Int.tdiv_eq_ediv_of_nonneg (by omega), show IntKind.i64.wrap ((x6 : Int) / 32 / 2) = (x6 : Int) / 32 / 2 from by
        unfold IntKind.wrap
        simp [IntKind.signed, IntKind.bits]
        omega]
      exact hqd
    clear ewu
    have HS27 : Hid ((Try.prog.info? 74).map (·.size) = some 10) := size27
    have ho8 := HO8.out
    clear hw6' HC1 HC8 HC9 HTWO4 HTWO6 HFOUR HCL
    go_upto_region 18 with fail
    rw [← HW6.out]
    simp only [ho8]
    go_cut [12] from 65 (fun p wx => ∃ a' n' c', p = .pointer (some ⟨w5.heap.size, 0, none⟩) ∧ Below (w.heap.size + 2) w1 wx ∧ Hid (SeesB wx (.slice a' n' c') ((L.take h).drop 20) ∧ ∀ x, a' = some x → w5.heap.size < x.block) ∧ Hid (wx.rangeAt w5.heap.size 0 [.int .u8 (x1 : Int), .int .u16 (id : Int), .bool qd, .bool qm, .int .i64 (o8 : Int), .int .u8 (x8 : Int), .int .u8 (x9 : Int), .int .u32 (src : Int), .int .u32 (dst : Int), .slice a' n' c']) ∧ Hid (∃ cells : Array Value, wx.heap[w5.heap.size]? = some (.cells cells 77 (0, 0)) ∧ cells.size = 11 ∧ cells[10]? = some (.slice none 0 0)))
    case first =>
      go_region_held3 (fun w' => (Tgt w5 w' ∧ w'.cell? ⟨g, off + 1, none⟩ = some (.int .u8 (x1 : Int)) ∧ w'.cell? ⟨g, off + 8, none⟩ = some (.int .u8 (x8 : Int)) ∧ w'.cell? ⟨g, off + 9, none⟩ = some (.int .u8 (x9 : Int))))
        (repeat (first | with_reducible assumption | with_reducible apply tgt_drew | with_reducible refine tgt_set ?_ HGN.out (by decide)))
        (first | (go_at_call 95; refine (HCT.out _ (by assumption)).mono ?_; rintro _ _ ⟨rfl, rfl⟩) | (go_at_call 96; apply Calls.mono (HCF.out _ _ _ _ (by assumption)); (all_goals first | exact Or.inl ⟨rfl, rfl⟩ | exact Or.inr ⟨rfl, rfl⟩ | skip); rintro _ _ ⟨rfl, rfl⟩) | (go_at_call 97; refine (HCC.out _ (by assumption)).mono ?_; rintro _ wk ⟨a', n', c', rfl, HSE, hTk⟩; obtain ⟨⟨y0, z0⟩, ⟨y1, z1⟩, ⟨y2, z2⟩, ⟨y3, z3⟩, ⟨y4, z4⟩, ⟨y5, z5⟩, ⟨y6, z6⟩, ⟨y7, z7⟩, ⟨y8, z8⟩, ⟨y9, z9⟩, hfz⟩ := tgt_cells hTk.1) | fail)
      all_goals (
        rename_i hHeld
        rw [HE1.out, HE2.out, HE3.out, HE7.out, HE8.out] at hHeld ⊢
        go_wp2_with fail
        go_meet
        case rel =>
          refine ⟨a', n', c', rfl, HBT.out _ hHeld, ?_, ?_, hHeld.1.row⟩
          · exact ⟨sees_set' (b := w5.heap.size) (vs := [.int .u8 (x1 : Int), .int .u16 (id : Int), .bool qd, .bool qm, .int .i64 (o8 : Int), .int .u8 (x8 : Int), .int .u8 (x9 : Int), .int .u32 (src : Int), .int .u32 (dst : Int), .slice a' n' c']) HSE.out.1 (fun x hx => by have := HSE.out.2 x hx; omega), HSE.out.2⟩
          · exact World.rangeAt_setCells_same wk w5.heap.size 0 [.int .u8 (x1 : Int), .int .u16 (id : Int), .bool qd, .bool qm, .int .i64 (o8 : Int), .int .u8 (x8 : Int), .int .u8 (x9 : Int), .int .u32 (src : Int), .int .u32 (dst : Int), .slice a' n' c'] hTk.1.there)
    case rest =>
      obtain ⟨a', n', c', rfl, hb7, HSO, HRG, HROW⟩ := hcut
      have hsz5 := hb5.size
      rw [HS1.out] at hsz5
      have HSZ5 := hid hsz5
      clear hT6 hqd hqm ho8 HCT HCF HCC HTH HE1 HE2 HE3 HE7 HE8 hsz5 HBT
      go_upto_region 19 with fail
      go_wp2_with fail
      refine (HCM.out _ hb7).mono ?_
      rintro _ w8 ⟨v', rfl, hO, hb8⟩
      have hs8 := hO.sees (fun x hx => HBY.out x (List.mem_of_mem_take (List.mem_of_mem_drop hx)))
      obtain ⟨a2, n2, c2, rfl, _, _, _⟩ := hs8.shape
      obtain ⟨cells, r1, r2, r3⟩ := HROW.out
      have hlt : w5.heap.size < wc.heap.size := (Array.getElem?_eq_some_iff.1 r1).1
      have r1' : w8.heap[w5.heap.size]? = some (.cells cells 77 (0, 0)) := (hb8.block _ hlt).trans r1
      have z10 : w8.cell? ⟨w5.heap.size, 10, none⟩ = some (.slice none 0 0) := by rw [cell_of_row _ _ _ _ _ _ r1']; exact r3
      have f10 : w8.frozen? ⟨w5.heap.size, 10, none⟩ = false := frozen_of_row _ _ _ _ _ r1'
      have HA2 : Hid (∀ x, a2 = some x → w5.heap.size < x.block) := fun x hx => by
        subst hx
        rcases hO.2 with ⟨hh, _⟩ | ⟨gg, cc, cur, hh, hbg, _⟩
        · cases hh
        · cases hh; show _ < gg; omega
      obtain ⟨zz, hzz⟩ : ∃ zz : Array Value, zz = #[.int .u8 (x1 : Int), .int .u16 (id : Int), .bool qd, .bool qm, .int .i64 (o8 : Int), .int .u8 (x8 : Int), .int .u8 (x9 : Int), .int .u32 (src : Int), .int .u32 (dst : Int), .slice a' n' c', .slice a2 n2 c2] := ⟨_, rfl⟩
      obtain ⟨w9, hw9⟩ : ∃ w9, w9 = w8.setCell ⟨w5.heap.size, 10, none⟩ (.slice a2 n2 c2) := ⟨_, rfl⟩
      have HZZ := hid hzz
      have HW9 := hid hw9
      have hb78 : Below (w.heap.size + 2) w1 w8 := hb7.trans (hb8.mono (by have := HSZ5.out; omega))
      have hb9 : Below (w.heap.size + 2) w1 w9 := by rw [hw9]; exact hb78.setCell (p := ⟨w5.heap.size, 10, none⟩) HSZ5.out _
      have hrg9 : w9.rangeAt w5.heap.size 0 zz.toList := fun j v hv => by
        rw [hzz] at hv
        rw [hw9]
        rcases Nat.lt_or_ge j 10 with hj | hj
        · have e := World.cell?_setCells_out w5.heap.size [.slice a2 n2 c2] 10 w8 ⟨w5.heap.size, 0 + j, none⟩ (fun _ _ => by simp; omega)
          refine (show (w8.setCell ⟨w5.heap.size, 10, none⟩ (.slice a2 n2 c2)).cell? _ = _ from e).trans ?_
          have hv' : ([.int .u8 (x1 : Int), .int .u16 (id : Int), .bool qd, .bool qm, .int .i64 (o8 : Int), .int .u8 (x8 : Int), .int .u8 (x9 : Int), .int .u32 (src : Int), .int .u32 (dst : Int), .slice a' n' c'] : List Value)[j]? = some v := by
            rw [← hv]
            show _ = ([.int .u8 (x1 : Int), .int .u16 (id : Int), .bool qd, .bool qm, .int .i64 (o8 : Int), .int .u8 (x8 : Int), .int .u8 (x9 : Int), .int .u32 (src : Int), .int .u32 (dst : Int), .slice a' n' c'] ++ [.slice a2 n2 c2] : List Value)[j]?
            rw [List.getElem?_append_left (by simpa using hj)]
          have := HRG.out j v hv'
          exact (hb8.cell (p := ⟨w5.heap.size, 0 + j, none⟩) hlt).trans this
        · have hj' : j < 11 := (List.getElem?_eq_some_iff.1 hv).1
          obtain rfl : j = 10 := by omega
          simp at hv
          subst hv
          have hth : w8.there w5.heap.size 10 1 := fun i hi => by
            obtain rfl : i = 0 := by omega
            exact ⟨by rw [Nat.add_zero, z10]; rfl, f10⟩
          have := World.rangeAt_setCells_same w8 w5.heap.size 10 [.slice a2 n2 c2] hth 0 _ rfl
          exact this
      obtain ⟨fs, hu29⟩ := und29
      have HSZZ : Hid ((Try.prog.info? 77).map (·.size) = some zz.size) := by unfold Hid; rw [hzz]; exact size29'
      have HLD := hid (run_loadAt_mid w9 w5.heap.size 0 77 zz.toList (.struct fs) hrg9 hu29 rfl (by rw [Array.length_toList]; exact HSZZ.out))
      have HONE : Hid (zz.all (·.oneCell') = true) := by unfold Hid; rw [hzz]; simp [Value.oneCell']
      have HTZ : Hid (w9.there w.heap.size 0 zz.size) := by unfold Hid; rw [hzz]; exact (HENDS.out _ hb9).th
      have HLV : Hid ((loadVar 77 ⟨w.heap.size, 0, none⟩).run Try.prog (w9.setCells w.heap.size 0 zz.toList) = .ok (.agg zz) (w9.setCells w.heap.size 0 zz.toList)) := by
        have hrg := World.rangeAt_setCells_same w9 w.heap.size 0 zz.toList (by rw [Array.length_toList]; exact HTZ.out)
        exact run_loadVar_mid _ w.heap.size 0 77 zz.toList (.struct fs) hrg hu29 rfl (by rw [Array.length_toList]; exact HSZZ.out)
      have HBF : Hid (Below w.heap.size w (w9.setCells w.heap.size 0 zz.toList)) := below_setCells' (Nat.le_refl _) _ _ _ (HBW.out _ hb9)
      have HSO9 : Hid (SeesB (w9.setCells w.heap.size 0 zz.toList) (.slice a' n' c') ((L.take h).drop 20)) := by
        refine sees_set' ?_ (fun x hx => by have := HSO.out.2 x hx; have := HSZ5.out; omega)
        rw [hw9]
        exact sees_setAt (HSO.out.1.below hb8) (fun x hx => by have := HSO.out.2 x hx; omega)
      have HSB9 : Hid (SeesB (w9.setCells w.heap.size 0 zz.toList) (.slice a2 n2 c2) ((L.take l').drop h)) := by
        refine sees_set' ?_ (fun x hx => by have := HA2.out x hx; have := HSZ5.out; omega)
        rw [hw9]
        exact sees_setAt hs8 (fun x hx => by have := HA2.out x hx; omega)
      clear hzz hw9 hb78 hb9 hrg9 hu29 hO hb8 hs8 r1 r1' hlt HCM
      go_upto_region 20 with fail
      rw [← HW9.out]
      go_wp2_with (first
        | (refine wpList_ld 77 ⟨w5.heap.size, 0, none⟩ (.tmp 12) rfl rfl HLD.out rfl ?_)
        | (refine wpList_store_mid rfl 77 (.tmp 4) (.tmp 102) rfl w.heap.size 0 zz rfl rfl HTZ.out HSZZ.out HONE.out ?_)
        | fail)
      generalize w9.setCells w.heap.size 0 zz.toList = wf at HLV HBF HSO9 HSB9 ⊢
      refine bodyPost_ret (v := .tuple #[.agg zz, .int .i64 0]) (by simp [results, Try.results79, asAddr, HLV.out]) rfl ?_
      exact ⟨.slice a' n' c', .slice a2 n2 c2, by rw [HZZ.out]; rfl, HSO9.out, HSB9.out, (fun a _ _ e => by have h1 := (Value.slice.inj e).1; have := HSO.out.2 a h1; have := HSZ5.out; omega), (fun a _ _ e => by have h1 := (Value.slice.inj e).1; have := HA2.out a h1; have := HSZ5.out; omega), HBF.out⟩
end Go.Proofs.Ytcelcnafcfefhab.N
