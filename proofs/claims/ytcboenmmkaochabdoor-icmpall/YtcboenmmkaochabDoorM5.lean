import Derived.Test.YtcboenmmkaochabDoorM4
import Derived.Deep.Slices
import Derived.Deep.Strs
import Derived.SizedLaws
import Derived.Test.YtcboenmmkaochabDoorRows
import Derived.WalkKit
import Derived.ProofKit
import Derived.OpenShut
import Derived.Deep.QuietTactic
import Derived.BigQuiet
import Derived.Laws.BitsAllLaws
namespace Go.Proofs.YtcboenmmkaochabDoor.N
open Go.ChangeShapes Go.WideShapes Go.ChangeAt Go.RowKit
set_option maxHeartbeats 1000000
set_option maxRecDepth 100000

theorem hdE_ok {H : List Nat} {nb : Nat} (h : hdE H nb = 0) : M.csum H = 0 ∧ byt H 6 < 128 ∧ M.area (H.drop 20) = true ∧ M.pieceOk ((w16 H 6 % 8192 * 8 : Nat) : Int) nb (decide (byt H 6 / 32 % 2 = 1)) = true := by
  unfold hdE at h
  by_cases c1 : M.csum H = 0
  · rw [if_neg (by simp [c1])] at h
    by_cases c2 : 128 ≤ byt H 6
    · rw [if_pos c2] at h; cases h
    · rw [if_neg c2] at h
      cases c3 : M.area (H.drop 20)
      · rw [c3, if_pos rfl] at h; cases h
      · rw [c3, if_neg (by simp)] at h
        cases c4 : M.pieceOk ((w16 H 6 % 8192 * 8 : Nat) : Int) nb (decide (byt H 6 / 32 % 2 = 1))
        · rw [c4, if_pos rfl] at h; cases h
        · exact ⟨c1, by omega, rfl, rfl⟩
  · rw [if_pos c1] at h; cases h

theorem w32_lt {L : List Nat} (h : ∀ x ∈ L, x < 256) (i : Nat) : w32 L i < 4294967296 := by
  have h1 := w16_lt h i
  have h2 := w16_lt h (i + 2)
  unfold w32; omega

/-- The block that is being filled, at the heap's end of w5; three cells that are read. -/
structure Tgt (w5 u : World) : Prop where
  below : Below w5.heap.size w5 u
  row : ∃ cells : Array Value, u.heap[w5.heap.size]? = some (.cells cells 35 (0, 0)) ∧ cells.size = 11 ∧ cells[10]? = some (.slice none 0 0)

theorem tgt_drew {w5 u : World} {p q r : Addr} {a b c : Value} (h : Tgt w5 u ∧ u.cell? p = some a ∧ u.cell? q = some b ∧ u.cell? r = some c) : Tgt w5 u.drew ∧ u.drew.cell? p = some a ∧ u.drew.cell? q = some b ∧ u.drew.cell? r = some c := ⟨⟨below_drew h.1.below, h.1.row⟩, h.2.1, h.2.2.1, h.2.2.2⟩

theorem tgt_grow {w5 u u' : World} {p q r : Addr} {a b c : Value} (h : Tgt w5 u ∧ u.cell? p = some a ∧ u.cell? q = some b ∧ u.cell? r = some c) (hb : Below u.heap.size u u') : Tgt w5 u' ∧ u'.cell? p = some a ∧ u'.cell? q = some b ∧ u'.cell? r = some c := by
  obtain ⟨h, e1, e2, e3⟩ := h
  obtain ⟨cells, h1, h2, h3⟩ := h.row
  have hlt : w5.heap.size < u.heap.size := (Array.getElem?_eq_some_iff.1 h1).1
  exact ⟨⟨h.below.trans (hb.mono h.below.size), cells, (hb.block _ hlt).trans h1, h2, h3⟩, (hb.cell (World.block_lt_of_cell? u _ e1)).trans e1, (hb.cell (World.block_lt_of_cell? u _ e2)).trans e2, (hb.cell (World.block_lt_of_cell? u _ e3)).trans e3⟩

theorem tgt_cells {w5 u : World} (h : Tgt w5 u) : (∃ y, u.cell? ⟨w5.heap.size, 0, none⟩ = some y) ∧ (∃ y, u.cell? ⟨w5.heap.size, 1, none⟩ = some y) ∧ (∃ y, u.cell? ⟨w5.heap.size, 2, none⟩ = some y) ∧ (∃ y, u.cell? ⟨w5.heap.size, 3, none⟩ = some y) ∧ (∃ y, u.cell? ⟨w5.heap.size, 4, none⟩ = some y) ∧ (∃ y, u.cell? ⟨w5.heap.size, 5, none⟩ = some y) ∧ (∃ y, u.cell? ⟨w5.heap.size, 6, none⟩ = some y) ∧ (∃ y, u.cell? ⟨w5.heap.size, 7, none⟩ = some y) ∧ (∃ y, u.cell? ⟨w5.heap.size, 8, none⟩ = some y) ∧ (∃ y, u.cell? ⟨w5.heap.size, 9, none⟩ = some y) ∧ ∀ j, u.frozen? ⟨w5.heap.size, j, none⟩ = false := by
  obtain ⟨cells, h1, h2, h3⟩ := h.row
  have k : ∀ i, i < 11 → ∃ y, u.cell? ⟨w5.heap.size, i, none⟩ = some y := fun i hi => by
    rw [cell_of_row _ _ _ _ _ _ h1]
    exact ⟨_, Array.getElem?_eq_getElem (by omega)⟩
  exact ⟨k 0 (by omega), k 1 (by omega), k 2 (by omega), k 3 (by omega), k 4 (by omega), k 5 (by omega), k 6 (by omega), k 7 (by omega), k 8 (by omega), k 9 (by omega), fun j => frozen_of_row _ _ _ _ _ h1⟩

theorem tgt_set {w5 u : World} {g o1 o2 o3 j : Nat} {a b c v : Value} (h : Tgt w5 u ∧ u.cell? ⟨g, o1, none⟩ = some a ∧ u.cell? ⟨g, o2, none⟩ = some b ∧ u.cell? ⟨g, o3, none⟩ = some c) (hg : g ≠ w5.heap.size) (hj : j ≠ 10) :
    Tgt w5 (u.setCell ⟨w5.heap.size, j, none⟩ v) ∧ (u.setCell ⟨w5.heap.size, j, none⟩ v).cell? ⟨g, o1, none⟩ = some a ∧ (u.setCell ⟨w5.heap.size, j, none⟩ v).cell? ⟨g, o2, none⟩ = some b ∧ (u.setCell ⟨w5.heap.size, j, none⟩ v).cell? ⟨g, o3, none⟩ = some c := by
  obtain ⟨h, e1, e2, e3⟩ := h
  obtain ⟨cells, h1, h2, h3⟩ := h.row
  have hne : ∀ o, (u.setCell ⟨w5.heap.size, j, none⟩ v).cell? ⟨g, o, none⟩ = u.cell? ⟨g, o, none⟩ := fun o => World.cell?_setCells_out w5.heap.size [v] j u ⟨g, o, none⟩ (fun hb _ => absurd hb hg)
  refine ⟨⟨h.below.setCell (p := ⟨w5.heap.size, j, none⟩) (Nat.le_refl _) v, cells.setIfInBounds j v, ?_, by simp [h2], ?_⟩, (hne _).trans e1, (hne _).trans e2, (hne _).trans e3⟩
  · simp [World.setCell, Array.getElem?_modify, h1]
  · rw [Array.getElem?_setIfInBounds_ne hj]; exact h3

theorem Tgt.there {w5 u : World} (h : Tgt w5 u) : u.there w5.heap.size 0 10 := by
  obtain ⟨cells, h1, h2, h3⟩ := h.row
  intro i hi
  refine ⟨?_, by rw [Nat.zero_add]; exact frozen_of_row _ _ _ _ _ h1⟩
  rw [Nat.zero_add, cell_of_row _ _ _ _ _ _ h1, Array.getElem?_eq_getElem (by omega)]; rfl

theorem sees_setAt {w : World} {ao : Option Addr} {n cap b k : Nat} {L : List Nat} {x : Value} (h : SeesB w (.slice ao n cap) L) (hne : ∀ a, ao = some a → a.block ≠ b) : SeesB (w.setCell ⟨b, k, none⟩ x) (.slice ao n cap) L := by
  obtain ⟨ao', cap', hv, h1, h2, h3⟩ := h
  simp at hv
  obtain ⟨rfl, hn, rfl⟩ := hv
  refine ⟨ao, cap, by rw [hn], h1, h2, fun j hj => ?_⟩
  obtain ⟨g, off, ha, hg, hc, hb⟩ := h3 j hj
  have hg' := hne _ ha
  have e : (w.setCell ⟨b, k, none⟩ x).cell? ⟨g, off + j, none⟩ = _ := World.cell?_setCells_out b [x] k w ⟨g, off + j, none⟩ (fun hb _ => absurd hb hg')
  exact ⟨g, off, ha, World.block_lt_of_cell? _ ⟨g, off + j, none⟩ (e.trans hc), e.trans hc, hb⟩

set_option maxHeartbeats 4000000 in
theorem read_good (v : Value) (L : List Nat) (whole : Bool) (w : World) (hv : SeesB w v L) (hl : L.length ≤ 140737488355328) (he : (exam L whole).2.2 = 0) :
    Calls Tryd.prog 69 #[v, .bool whole] w fun e w' => ∃ vo vb, e = .returned (.tuple #[.agg (pkCells (rdH (L.take (exam L whole).2.1) (exam L whole).1) vo vb), .int .i64 0]) ∧ SeesB w' vo (rdH (L.take (exam L whole).2.1) (exam L whole).1).opts ∧ SeesB w' vb ((L.take (exam L whole).2.1).drop (exam L whole).1) ∧ (∀ a n c, vo = .slice (some a) n c → w.heap.size ≤ a.block) ∧ (∀ a n c, vb = .slice (some a) n c → w.heap.size ≤ a.block) ∧ Below w.heap.size w w' := by
  obtain ⟨e1, e2, e3⟩ := exam_ok he
  obtain ⟨a1, a2, a3, a4, a5, a6, a7⟩ := lens_ok e1
  obtain ⟨k1, k2, k3, k4⟩ := hdE_ok e2
  rw [e3]
  obtain ⟨w1, hw1⟩ : ∃ w1, w1 = (w.alloc (.cells Z29 35)).alloc (.cells Z29 35) := ⟨_, rfl⟩
  have hs1 : w1.heap.size = w.heap.size + 2 := by rw [hw1]; simp
  have hb1 : Below w.heap.size w w1 := by rw [hw1]; exact ((Below.refl _ _).alloc (Nat.le_refl _) _).alloc (by simp) _
  have HENDS : Hid (∀ u, Below (w.heap.size + 2) w1 u → Ends w Z29 u) := fun u hu => by rw [hw1] at hu; exact ends_any hu
  have HLEN := hid (lens_ref v L whole w1 (hv.below hb1) hl)
  obtain ⟨ao, n, cap, rfl, HN, hn1, hn2⟩ := hv.shape
  have HBY := hid hv.bytes
  unfold maxLen at hn2
  have HW1 : Hid (w1 = (w.alloc (.cells #[.int .u8 0, .int .u16 0, .bool false, .bool false, .int .i64 0, .int .u8 0, .int .u8 0, .int .u32 0, .int .u32 0, .slice none 0 0, .slice none 0 0] 35)).alloc (.cells #[.int .u8 0, .int .u16 0, .bool false, .bool false, .int .i64 0, .int .u8 0, .int .u8 0, .int .u32 0, .int .u32 0, .slice none 0 0, .slice none 0 0] 35)) := hw1
  have HS1 := hid hs1
  have HB1 := hid hb1
  have HSV := hid hv
  have hl16 := w16_lt HBY.out 2
  rw [← a7] at hl16
  rw [e1, HS1.out] at HLEN
  clear hw1 hs1 hb1 hv he e1 e2 e3 a5 a6 a7
  generalize lens L whole = t at *
  obtain ⟨h, l, z⟩ := t
  simp only at *
  rw [byt_take (by omega)] at k2 k4
  rw [show w16 (L.take h) 6 = w16 L 6 by unfold w16; rw [byt_take (by omega), byt_take (by omega)]] at k4
  have hln : h ≤ n := by have := HN.out; omega
  obtain ⟨l', hl'⟩ : ∃ l', l' = min l n := ⟨_, rfl⟩
  have hhl' : h ≤ l' := by omega
  have hl'n : l' ≤ n := by omega
  have HRD : Hid (rdH (L.take l) h = ⟨byt L 1, w16 L 4, decide (byt L 6 / 64 % 2 = 1), decide (byt L 6 / 32 % 2 = 1), ((w16 L 6 % 8192 * 8 : Nat) : Int), byt L 8, byt L 9, w32 L 12, w32 L 16, (L.take h).drop 20⟩) := by
    have e : ∀ i, i < 20 → byt (L.take l) i = byt L i := fun i hi => byt_take (by omega)
    unfold Hid rdH w32 w16
    simp only [e 1 (by omega), e 4 (by omega), e 5 (by omega), e 6 (by omega), e 7 (by omega), e 8 (by omega), e 9 (by omega), e 12 (by omega), e 13 (by omega), e 14 (by omega), e 15 (by omega), e 16 (by omega), e 17 (by omega), e 18 (by omega), e 19 (by omega), List.take_take, Nat.min_eq_left a4]
  have HBD : Hid (L.take l = L.take l') := by
    unfold Hid
    rcases Nat.le_total l n with g | g
    · rw [hl', Nat.min_eq_left g]
    · rw [hl', Nat.min_eq_right g, List.take_of_length_le (by have := HN.out; omega), List.take_of_length_le (by have := HN.out; omega)]
  rw [HRD.out, HBD.out]
  clear HRD HBD
  obtain ⟨ah, HSH, hhigh⟩ := HSV.out.high h (h : Int) rfl hln
  obtain ⟨g, off, rfl, hg, hc6⟩ := HSV.out.atB 6 (by omega)
  obtain ⟨g', off', hgg, _, hc1⟩ := HSV.out.atB 1 (by omega)
  cases hgg
  obtain ⟨g', off', hgg, _, hc8⟩ := HSV.out.atB 8 (by omega)
  cases hgg
  obtain ⟨g', off', hgg, _, hc9⟩ := HSV.out.atB 9 (by omega)
  cases hgg
  obtain ⟨am, HSM, hmid⟩ := HSV.out.mid 20 h 20 (h : Int) rfl rfl a1 hln
  obtain ⟨an, HSN, hmid2⟩ := HSV.out.mid h l' (h : Int) (l' : Int) rfl rfl hhl' hl'n
  have HBW : Hid (∀ u, Below (w.heap.size + 2) w1 u → Below w.heap.size w u) := fun u hu => HB1.out.trans (hu.mono (by omega))
  have HC6 : Hid (∀ u, Below (w.heap.size + 2) w1 u → u.cell? ⟨g, off + 6, none⟩ = some (.int .u8 (byt L 6 : Int))) := fun u hu => ((HBW.out _ hu).cell (p := ⟨g, _, none⟩) hg).trans hc6
  have HC1 : Hid (∀ u, Below (w.heap.size + 2) w1 u → u.cell? ⟨g, off + 1, none⟩ = some (.int .u8 (byt L 1 : Int))) := fun u hu => ((HBW.out _ hu).cell (p := ⟨g, _, none⟩) hg).trans hc1
  have HC8 : Hid (∀ u, Below (w.heap.size + 2) w1 u → u.cell? ⟨g, off + 8, none⟩ = some (.int .u8 (byt L 8 : Int))) := fun u hu => ((HBW.out _ hu).cell (p := ⟨g, _, none⟩) hg).trans hc8
  have HC9 : Hid (∀ u, Below (w.heap.size + 2) w1 u → u.cell? ⟨g, off + 9, none⟩ = some (.int .u8 (byt L 9 : Int))) := fun u hu => ((HBW.out _ hu).cell (p := ⟨g, _, none⟩) hg).trans hc9
  have hx6 := byt_lt HBY.out 6
  have hw6 := w16_lt HBY.out 6
  have HSUM : Hid (∀ u, Below (w.heap.size + 2) w1 u → Calls Tryd.prog 35 #[.slice (some ⟨u.heap.size, 0, none⟩) 1 1] (u.alloc (.cells #[.slice ah h cap] 26)) fun e w' => e = .returned (.int .u16 0) ∧ Below (w.heap.size + 2) w1 w') := fun u hu => by
    have := sum_ref _ _ _ (seesBB_one rfl _ _ (HSH.out.below (HBW.out _ hu)) 26) (by simp; omega)
    rw [show [L.take h].flatten = L.take h by simp, k1] at this
    refine this.mono ?_
    rintro e w' ⟨rfl, hb⟩
    have hsz := hu.size
    rw [HS1.out] at hsz
    exact ⟨rfl, (hu.alloc (by omega) _).trans (hb.mono (by simp; omega))⟩
  have HAREA : Hid (∀ u, Below (w.heap.size + 2) w1 u → Calls Tryd.prog 70 #[.slice am (h - 20) (cap - 20)] u fun e w' => e = .returned (.bool true) ∧ u = w') := fun u hu => by
    have := area_ref _ _ u (HSM.out.below (HBW.out _ hu))
    rw [k3] at this
    exact this.mono fun e w' ⟨a, b⟩ => ⟨a, b.symm⟩
  have HTWO6 : Hid (∀ (u : World), Below (w.heap.size + 2) w1 u → Calls Tryd.prog 84 #[.slice (some ⟨g, off, none⟩) n cap, .int .i64 6] u fun e w' => e = .returned (.int .i64 ((w16 L 6 : Nat) : Int)) ∧ w' = u.drew) := fun u hu =>
    two_x _ 6 6 L u (HSV.out.below (HBW.out _ hu)) rfl (by have := HN.out; omega) (by omega)
  have HTWO4 : Hid (∀ (u : World), Below (w.heap.size + 2) w1 u → Calls Tryd.prog 84 #[.slice (some ⟨g, off, none⟩) n cap, .int .i64 4] u fun e w' => e = .returned (.int .i64 ((w16 L 4 : Nat) : Int)) ∧ w' = u.drew) := fun u hu =>
    two_x _ 4 4 L u (HSV.out.below (HBW.out _ hu)) rfl (by have := HN.out; omega) (by omega)
  have HFOUR : Hid (∀ (i : Int) (x : Nat), ((i = 12 ∧ x = w32 L 12) ∨ (i = 16 ∧ x = w32 L 16)) → ∀ (u : World), Below (w.heap.size + 2) w1 u → Calls Tryd.prog 85 #[.slice (some ⟨g, off, none⟩) n cap, .int .i64 i] u fun e w' => e = .returned (.int .i64 (x : Int)) ∧ w' = u.drew.drew) := by
    rintro i x (⟨rfl, rfl⟩ | ⟨rfl, rfl⟩) u hu
    · exact four_x _ 12 12 L u (HSV.out.below (HBW.out _ hu)) rfl (by have := HN.out; omega) (by omega)
    · exact four_x _ 16 16 L u (HSV.out.below (HBW.out _ hu)) rfl (by have := HN.out; omega) (by omega)
  have HPC : Hid (∀ (i j : Int) (b : Bool) (u : World), i = ((w16 L 6 % 8192 * 8 : Nat) : Int) → j = ((l - h : Nat) : Int) → b = decide (byt L 6 / 32 % 2 = 1) → Calls Tryd.prog 71 #[.int .i64 i, .int .i64 j, .bool b] u fun e w' => e = .returned (.bool true) ∧ u = w') := fun i j b u hi hj hb => by
    subst hi hj hb
    have := piece_ref ((w16 L 6 % 8192 * 8 : Nat) : Int) (l - h) (decide (byt L 6 / 32 % 2 = 1)) u ⟨by omega, by omega⟩ (by omega)
    rw [k4] at this
    exact this.mono fun e w' ⟨a, b⟩ => ⟨a, b.symm⟩
  have HCL : Hid (∀ u, Below (w.heap.size + 2) w1 u → Calls Tryd.prog 86 #[.slice am (h - 20) (cap - 20)] u fun e w' => ∃ v', e = .returned v' ∧ OwnB w' u.heap.size v' ((L.take h).drop 20) ∧ Below u.heap.size u w') := fun u hu =>
    clone_any _ _ u (HSM.out.below (HBW.out _ hu)) (by simp; omega)
  have HCM : Hid (∀ u, Below (w.heap.size + 2) w1 u → Calls Tryd.prog 86 #[.slice an (l' - h) (cap - h)] u fun e w' => ∃ v', e = .returned v' ∧ OwnB w' u.heap.size v' ((L.take l').drop h) ∧ Below u.heap.size u w') := fun u hu =>
    clone_any _ _ u (HSN.out.below (HBW.out _ hu)) (by simp; omega)
  have b6 : (6 : Int) < (n : Int) := by omega
  have HB5 : Hid (byt L 6 < 128) := k2
  clear k1 k3 k4 hc6 hc1 hc8 hc9 HSM HSN HSH
  have HX1 := byt_lt HBY.out 1
  have HX8 := byt_lt HBY.out 8
  have HX9 := byt_lt HBY.out 9
  have HX4 := w16_lt HBY.out 4
  have HX12 := w32_lt HBY.out 12
  have HX16 := w32_lt HBY.out 16
  have hqd := bit6 (byt L 6) k2
  have hqm := bit5 (byt L 6)
  obtain ⟨o8, ho8⟩ : ∃ o8 : Nat, o8 = w16 L 6 % 8192 * 8 := ⟨_, rfl⟩
  rw [← ho8] at HPC ⊢
  have HO8 : Hid (8 * ((w16 L 6 : Int) % 8192) = (o8 : Int)) := by unfold Hid; omega
  clear ho8
  generalize decide (byt L 6 / 64 % 2 = 1) = qd at *
  generalize decide (byt L 6 / 32 % 2 = 1) = qm at *
  generalize byt L 6 = x6 at *
  generalize w16 L 6 = f6 at *
  generalize byt L 1 = x1 at *
  generalize byt L 8 = x8 at *
  generalize byt L 9 = x9 at *
  generalize w16 L 4 = id at *
  generalize w32 L 12 = src at *
  generalize w32 L 16 = dst at *
  go_enter Tryd.func69, Tryd.ntmps69
  go_upto_region 2 with fail
  rw [← HW1.out]
  go_wp2_with fail
  refine HLEN.out.mono ?_
  rintro _ w2 ⟨rfl, hb2⟩
  go_wp2_with fail
  refine (HSUM.out _ hb2).mono ?_
  rintro _ w3 ⟨rfl, hb3⟩
  have c6 := HC6.out _ hb3
  go_wp2_with fail
  refine (HAREA.out _ hb3).mono ?_
  rintro _ _ ⟨rfl, rfl⟩
  go_wp2_with fail
  refine (HTWO6.out _ hb3).mono ?_
  rintro _ _ ⟨rfl, rfl⟩
  go_wp2_with fail
  refine (HPC.out _ _ _ _ ?_ ?_ ?_).mono ?_
  · exact HO8.out
  · omega
  · rfl
  rintro _ _ ⟨rfl, rfl⟩
  have hb5 := below_drew hb3
  clear hb2 HSUM HLEN HAREA HPC HC6 c6
  generalize w3.drew = w5 at *
  go_upto_if 62 with fail
  go_cut [8] from 59 (fun p wx => p = .int .i64 (l' : Int) ∧ w5 = wx)
  case first =>
    by_cases hq : l ≤ n
    · have HLL : Hid ((l : Int) = (l' : Int)) := by unfold Hid; omega
      have hq' : (l : Int) ≤ (n : Int) := by omega
      clear hl' hq
      go_wp2_with fail
      go_meet
      case rel => exact ⟨by rw [HLL.out], rfl⟩
    · have HLL : Hid ((n : Int) = (l' : Int)) := by unfold Hid; omega
      have hq' : (n : Int) < (l : Int) := by omega
      clear hl' hq
      go_wp2_with fail
      go_meet
      case rel => exact ⟨by rw [HLL.out], rfl⟩
  case rest =>
    obtain ⟨rfl, rfl⟩ := hcut
    clear hl'
    obtain ⟨w6, hw6'⟩ : ∃ w6, w6 = w5.alloc (.cells Z29 35) := ⟨_, rfl⟩
    have hT6 : (Tgt w5 w6 ∧ w6.cell? ⟨g, off + 1, none⟩ = some (.int .u8 (x1 : Int)) ∧ w6.cell? ⟨g, off + 8, none⟩ = some (.int .u8 (x8 : Int)) ∧ w6.cell? ⟨g, off + 9, none⟩ = some (.int .u8 (x9 : Int))) := by
      have hsz := hb5.size
      rw [HS1.out] at hsz
      have hb6 : Below (w.heap.size + 2) w1 w6 := by rw [hw6']; exact hb5.alloc (by omega) _
      exact ⟨⟨by rw [hw6']; exact (Below.refl _ _).alloc (Nat.le_refl _) _, Z29, by rw [hw6']; exact heap_alloc_new w5 _, rfl, rfl⟩, HC1.out _ hb6, HC8.out _ hb6, HC9.out _ hb6⟩
    have HBT : Hid (∀ u, (Tgt w5 u ∧ u.cell? ⟨g, off + 1, none⟩ = some (.int .u8 (x1 : Int)) ∧ u.cell? ⟨g, off + 8, none⟩ = some (.int .u8 (x8 : Int)) ∧ u.cell? ⟨g, off + 9, none⟩ = some (.int .u8 (x9 : Int))) → Below (w.heap.size + 2) w1 u) := fun u hu => by
      have hsz := hb5.size
      rw [HS1.out] at hsz
      exact hb5.trans (hu.1.below.mono (by omega))
    have HCT : Hid (∀ u, (Tgt w5 u ∧ u.cell? ⟨g, off + 1, none⟩ = some (.int .u8 (x1 : Int)) ∧ u.cell? ⟨g, off + 8, none⟩ = some (.int .u8 (x8 : Int)) ∧ u.cell? ⟨g, off + 9, none⟩ = some (.int .u8 (x9 : Int))) → Calls Tryd.prog 84 #[.slice (some ⟨g, off, none⟩) n cap, .int .i64 4] u fun e w' => e = .returned (.int .i64 ((id : Nat) : Int)) ∧ w' = u.drew) := fun u hu => HTWO4.out u (HBT.out _ hu)
    have HCF : Hid (∀ (i : Int) (x : Nat), ((i = 12 ∧ x = src) ∨ (i = 16 ∧ x = dst)) → ∀ u, (Tgt w5 u ∧ u.cell? ⟨g, off + 1, none⟩ = some (.int .u8 (x1 : Int)) ∧ u.cell? ⟨g, off + 8, none⟩ = some (.int .u8 (x8 : Int)) ∧ u.cell? ⟨g, off + 9, none⟩ = some (.int .u8 (x9 : Int))) → Calls Tryd.prog 85 #[.slice (some ⟨g, off, none⟩) n cap, .int .i64 i] u fun e w' => e = .returned (.int .i64 (x : Int)) ∧ w' = u.drew.drew) := fun i x hx u hu => HFOUR.out i x hx u (HBT.out _ hu)
    have HCC : Hid (∀ u, (Tgt w5 u ∧ u.cell? ⟨g, off + 1, none⟩ = some (.int .u8 (x1 : Int)) ∧ u.cell? ⟨g, off + 8, none⟩ = some (.int .u8 (x8 : Int)) ∧ u.cell? ⟨g, off + 9, none⟩ = some (.int .u8 (x9 : Int))) → Calls Tryd.prog 86 #[.slice am (h - 20) (cap - 20)] u fun e w' => ∃ a' n' c', e = .returned (.slice a' n' c') ∧ Hid (SeesB w' (.slice a' n' c') ((L.take h).drop 20) ∧ ∀ x, a' = some x → w5.heap.size < x.block) ∧ (Tgt w5 w' ∧ w'.cell? ⟨g, off + 1, none⟩ = some (.int .u8 (x1 : Int)) ∧ w'.cell? ⟨g, off + 8, none⟩ = some (.int .u8 (x8 : Int)) ∧ w'.cell? ⟨g, off + 9, none⟩ = some (.int .u8 (x9 : Int)))) := fun u hu => by
      refine (HCL.out u (HBT.out _ hu)).mono ?_
      rintro e w' ⟨v', rfl, hO, hb⟩
      have hs := hO.sees (fun x hx => HBY.out x (List.mem_of_mem_take (List.mem_of_mem_drop hx)))
      obtain ⟨cells, r1, r2, r3⟩ := hu.1.row
      have hlt : w5.heap.size < u.heap.size := (Array.getElem?_eq_some_iff.1 r1).1
      obtain ⟨a', n', c', rfl, _, _, _⟩ := hs.shape
      refine ⟨a', n', c', rfl, ⟨hs, fun x hx => ?_⟩, tgt_grow hu hb⟩
      subst hx
      rcases hO.2 with ⟨hh, _⟩ | ⟨gg, cc, cur, hh, hbg, _⟩
      · cases hh
      · cases hh; show _ < gg; omega
    have b1 : (1 : Int) < (n : Int) := by omega
    have b8 : (8 : Int) < (n : Int) := by omega
    have b9 : (9 : Int) < (n : Int) := by omega
    have HW6 : Hid (w6 = w5.alloc (.cells #[.int .u8 0, .int .u16 0, .bool false, .bool false, .int .i64 0, .int .u8 0, .int .u8 0, .int .u32 0, .int .u32 0, .slice none 0 0, .slice none 0 0] 35)) := hw6'
    have HTH : Hid (∀ u, (Tgt w5 u ∧ u.cell? ⟨g, off + 1, none⟩ = some (.int .u8 (x1 : Int)) ∧ u.cell? ⟨g, off + 8, none⟩ = some (.int .u8 (x8 : Int)) ∧ u.cell? ⟨g, off + 9, none⟩ = some (.int .u8 (x9 : Int))) → u.there w5.heap.size 0 10) := fun u hu => hu.1.there
    have HGN : Hid (g ≠ w5.heap.size) := by have := hb5.size; unfold Hid; rw [HS1.out] at this; omega
    have ewu : ∀ z : Int, 0 ≤ z → z ≤ 4294967295 → IntKind.u32.wrap z = z := fun z h0 h1 => by
      unfold IntKind.wrap
      simp [IntKind.signed, IntKind.bits]
      omega
    have HE7 : Hid (IntKind.u32.wrap (src : Int) = (src : Int)) := ewu _ (by omega) (by omega)
    have HE8 : Hid (IntKind.u32.wrap (dst : Int) = (dst : Int)) := ewu _ (by omega) (by omega)
    have HE1 : Hid (IntKind.u16.wrap (id : Int) = (id : Int)) := by
      unfold Hid IntKind.wrap
      simp [IntKind.signed, IntKind.bits]
      omega
    have HE3 : Hid ((((x6 : Int) / 32).tmod 2 == 1) = qm) := by
      unfold Hid
      rw [Int.tmod_eq_emod_of_nonneg (by omega)]
      exact hqm
    have HE2 : Hid ((IntKind.i64.wrap (((x6 : Int) / 32).tdiv 2) == 1) = qd) := by
      unfold Hid
      rw [Int.tdiv_eq_ediv_of_nonneg (by omega), show IntKind.i64.wrap ((x6 : Int) / 32 / 2) = (x6 : Int) / 32 / 2 from by
        unfold IntKind.wrap
        simp [IntKind.signed, IntKind.bits]
        omega]
      exact hqd
    clear ewu
    have HS27 : Hid ((Tryd.prog.info? 33).map (·.size) = some 10) := size27
    have ho8 := HO8.out
    clear hw6' HC1 HC8 HC9 HTWO4 HTWO6 HFOUR HCL
    go_upto_region 18 with fail
    rw [← HW6.out]
    simp only [ho8]
    go_cut [12] from 65 (fun p wx => ∃ a' n' c', p = .pointer (some ⟨w5.heap.size, 0, none⟩) ∧ Below (w.heap.size + 2) w1 wx ∧ Hid (SeesB wx (.slice a' n' c') ((L.take h).drop 20) ∧ ∀ x, a' = some x → w5.heap.size < x.block) ∧ Hid (wx.rangeAt w5.heap.size 0 [.int .u8 (x1 : Int), .int .u16 (id : Int), .bool qd, .bool qm, .int .i64 (o8 : Int), .int .u8 (x8 : Int), .int .u8 (x9 : Int), .int .u32 (src : Int), .int .u32 (dst : Int), .slice a' n' c']) ∧ Hid (∃ cells : Array Value, wx.heap[w5.heap.size]? = some (.cells cells 35 (0, 0)) ∧ cells.size = 11 ∧ cells[10]? = some (.slice none 0 0)))
    case first =>
      go_region_held3 (fun w' => (Tgt w5 w' ∧ w'.cell? ⟨g, off + 1, none⟩ = some (.int .u8 (x1 : Int)) ∧ w'.cell? ⟨g, off + 8, none⟩ = some (.int .u8 (x8 : Int)) ∧ w'.cell? ⟨g, off + 9, none⟩ = some (.int .u8 (x9 : Int))))
        (repeat (first | with_reducible assumption | with_reducible apply tgt_drew | with_reducible refine tgt_set ?_ HGN.out (by decide)))
        (first | (go_at_call 84; refine (HCT.out _ (by assumption)).mono ?_; rintro _ _ ⟨rfl, rfl⟩) | (go_at_call 85; apply Calls.mono (HCF.out _ _ _ _ (by assumption)); (all_goals first | exact Or.inl ⟨rfl, rfl⟩ | exact Or.inr ⟨rfl, rfl⟩ | skip); rintro _ _ ⟨rfl, rfl⟩) | (go_at_call 86; refine (HCC.out _ (by assumption)).mono ?_; rintro _ wk ⟨a', n', c', rfl, HSE, hTk⟩; obtain ⟨⟨y0, z0⟩, ⟨y1, z1⟩, ⟨y2, z2⟩, ⟨y3, z3⟩, ⟨y4, z4⟩, ⟨y5, z5⟩, ⟨y6, z6⟩, ⟨y7, z7⟩, ⟨y8, z8⟩, ⟨y9, z9⟩, hfz⟩ := tgt_cells hTk.1) | fail)
      all_goals (
        rename_i hHeld
        rw [HE1.out, HE2.out, HE3.out, HE7.out, HE8.out] at hHeld ⊢
        go_wp2_with fail
        go_meet
        case rel =>
          refine ⟨a', n', c', rfl, HBT.out _ hHeld, ?_, ?_, hHeld.1.row⟩
          · exact ⟨sees_set' (b := w5.heap.size) (vs := [.int .u8 (x1 : Int), .int .u16 (id : Int), .bool qd, .bool qm, .int .i64 (o8 : Int), .int .u8 (x8 : Int), .int .u8 (x9 : Int), .int .u32 (src : Int), .int .u32 (dst : Int), .slice a' n' c']) HSE.out.1 (fun x hx => by have := HSE.out.2 x hx; omega), HSE.out.2⟩
          · exact World.rangeAt_setCells_same wk w5.heap.size 0 [.int .u8 (x1 : Int), .int .u16 (id : Int), .bool qd, .bool qm, .int .i64 (o8 : Int), .int .u8 (x8 : Int), .int .u8 (x9 : Int), .int .u32 (src : Int), .int .u32 (dst : Int), .slice a' n' c'] hTk.1.there)
    case rest =>
      obtain ⟨a', n', c', rfl, hb7, HSO, HRG, HROW⟩ := hcut
      have hsz5 := hb5.size
      rw [HS1.out] at hsz5
      have HSZ5 := hid hsz5
      clear hT6 hqd hqm ho8 HCT HCF HCC HTH HE1 HE2 HE3 HE7 HE8 hsz5 HBT
      go_upto_region 19 with fail
      go_wp2_with fail
      refine (HCM.out _ hb7).mono ?_
      rintro _ w8 ⟨v', rfl, hO, hb8⟩
      have hs8 := hO.sees (fun x hx => HBY.out x (List.mem_of_mem_take (List.mem_of_mem_drop hx)))
      obtain ⟨a2, n2, c2, rfl, _, _, _⟩ := hs8.shape
      obtain ⟨cells, r1, r2, r3⟩ := HROW.out
      have hlt : w5.heap.size < wc.heap.size := (Array.getElem?_eq_some_iff.1 r1).1
      have r1' : w8.heap[w5.heap.size]? = some (.cells cells 35 (0, 0)) := (hb8.block _ hlt).trans r1
      have z10 : w8.cell? ⟨w5.heap.size, 10, none⟩ = some (.slice none 0 0) := by rw [cell_of_row _ _ _ _ _ _ r1']; exact r3
      have f10 : w8.frozen? ⟨w5.heap.size, 10, none⟩ = false := frozen_of_row _ _ _ _ _ r1'
      have HA2 : Hid (∀ x, a2 = some x → w5.heap.size < x.block) := fun x hx => by
        subst hx
        rcases hO.2 with ⟨hh, _⟩ | ⟨gg, cc, cur, hh, hbg, _⟩
        · cases hh
        · cases hh; show _ < gg; omega
      obtain ⟨zz, hzz⟩ : ∃ zz : Array Value, zz = #[.int .u8 (x1 : Int), .int .u16 (id : Int), .bool qd, .bool qm, .int .i64 (o8 : Int), .int .u8 (x8 : Int), .int .u8 (x9 : Int), .int .u32 (src : Int), .int .u32 (dst : Int), .slice a' n' c', .slice a2 n2 c2] := ⟨_, rfl⟩
      obtain ⟨w9, hw9⟩ : ∃ w9, w9 = w8.setCell ⟨w5.heap.size, 10, none⟩ (.slice a2 n2 c2) := ⟨_, rfl⟩
      have HZZ := hid hzz
      have HW9 := hid hw9
      have hb78 : Below (w.heap.size + 2) w1 w8 := hb7.trans (hb8.mono (by have := HSZ5.out; omega))
      have hb9 : Below (w.heap.size + 2) w1 w9 := by rw [hw9]; exact hb78.setCell (p := ⟨w5.heap.size, 10, none⟩) HSZ5.out _
      have hrg9 : w9.rangeAt w5.heap.size 0 zz.toList := fun j v hv => by
        rw [hzz] at hv
        rw [hw9]
        rcases Nat.lt_or_ge j 10 with hj | hj
        · have e := World.cell?_setCells_out w5.heap.size [.slice a2 n2 c2] 10 w8 ⟨w5.heap.size, 0 + j, none⟩ (fun _ _ => by simp; omega)
          refine (show (w8.setCell ⟨w5.heap.size, 10, none⟩ (.slice a2 n2 c2)).cell? _ = _ from e).trans ?_
          have hv' : ([.int .u8 (x1 : Int), .int .u16 (id : Int), .bool qd, .bool qm, .int .i64 (o8 : Int), .int .u8 (x8 : Int), .int .u8 (x9 : Int), .int .u32 (src : Int), .int .u32 (dst : Int), .slice a' n' c'] : List Value)[j]? = some v := by
            rw [← hv]
            show _ = ([.int .u8 (x1 : Int), .int .u16 (id : Int), .bool qd, .bool qm, .int .i64 (o8 : Int), .int .u8 (x8 : Int), .int .u8 (x9 : Int), .int .u32 (src : Int), .int .u32 (dst : Int), .slice a' n' c'] ++ [.slice a2 n2 c2] : List Value)[j]?
            rw [List.getElem?_append_left (by simpa using hj)]
          have := HRG.out j v hv'
          exact (hb8.cell (p := ⟨w5.heap.size, 0 + j, none⟩) hlt).trans this
        · have hj' : j < 11 := (List.getElem?_eq_some_iff.1 hv).1
          obtain rfl : j = 10 := by omega
          simp at hv
          subst hv
          have hth : w8.there w5.heap.size 10 1 := fun i hi => by
            obtain rfl : i = 0 := by omega
            exact ⟨by rw [Nat.add_zero, z10]; rfl, f10⟩
          have := World.rangeAt_setCells_same w8 w5.heap.size 10 [.slice a2 n2 c2] hth 0 _ rfl
          exact this
      obtain ⟨fs, hu29⟩ := und29
      have HSZZ : Hid ((Tryd.prog.info? 35).map (·.size) = some zz.size) := by unfold Hid; rw [hzz]; exact size29'
      have HLD := hid (run_loadAt_mid w9 w5.heap.size 0 35 zz.toList (.struct fs) hrg9 hu29 rfl (by rw [Array.length_toList]; exact HSZZ.out))
      have HONE : Hid (zz.all (·.oneCell') = true) := by unfold Hid; rw [hzz]; simp [Value.oneCell']
      have HTZ : Hid (w9.there w.heap.size 0 zz.size) := by unfold Hid; rw [hzz]; exact (HENDS.out _ hb9).th
      have HLV : Hid ((loadVar 35 ⟨w.heap.size, 0, none⟩).run Tryd.prog (w9.setCells w.heap.size 0 zz.toList) = .ok (.agg zz) (w9.setCells w.heap.size 0 zz.toList)) := by
        have hrg := World.rangeAt_setCells_same w9 w.heap.size 0 zz.toList (by rw [Array.length_toList]; exact HTZ.out)
        exact run_loadVar_mid _ w.heap.size 0 35 zz.toList (.struct fs) hrg hu29 rfl (by rw [Array.length_toList]; exact HSZZ.out)
      have HBF : Hid (Below w.heap.size w (w9.setCells w.heap.size 0 zz.toList)) := below_setCells' (Nat.le_refl _) _ _ _ (HBW.out _ hb9)
      have HSO9 : Hid (SeesB (w9.setCells w.heap.size 0 zz.toList) (.slice a' n' c') ((L.take h).drop 20)) := by
        refine sees_set' ?_ (fun x hx => by have := HSO.out.2 x hx; have := HSZ5.out; omega)
        rw [hw9]
        exact sees_setAt (HSO.out.1.below hb8) (fun x hx => by have := HSO.out.2 x hx; omega)
      have HSB9 : Hid (SeesB (w9.setCells w.heap.size 0 zz.toList) (.slice a2 n2 c2) ((L.take l').drop h)) := by
        refine sees_set' ?_ (fun x hx => by have := HA2.out x hx; have := HSZ5.out; omega)
        rw [hw9]
        exact sees_setAt hs8 (fun x hx => by have := HA2.out x hx; omega)
      clear hzz hw9 hb78 hb9 hrg9 hu29 hO hb8 hs8 r1 r1' hlt HCM
      go_upto_region 20 with fail
      rw [← HW9.out]
      go_wp2_with (first
        | (refine wpList_ld 35 ⟨w5.heap.size, 0, none⟩ (.tmp 12) rfl rfl HLD.out rfl ?_)
        | (refine wpList_store_mid rfl 35 (.tmp 4) (.tmp 102) rfl w.heap.size 0 zz rfl rfl HTZ.out HSZZ.out HONE.out ?_)
        | fail)
      generalize w9.setCells w.heap.size 0 zz.toList = wf at HLV HBF HSO9 HSB9 ⊢
      refine bodyPost_ret (v := .tuple #[.agg zz, .int .i64 0]) (by simp [results, Tryd.results69, asAddr, HLV.out]) rfl ?_
      exact ⟨.slice a' n' c', .slice a2 n2 c2, by rw [HZZ.out]; rfl, HSO9.out, HSB9.out, (fun a _ _ e => by have h1 := (Value.slice.inj e).1; have := HSO.out.2 a h1; have := HSZ5.out; omega), (fun a _ _ e => by have h1 := (Value.slice.inj e).1; have := HA2.out a h1; have := HSZ5.out; omega), HBF.out⟩
end Go.Proofs.YtcboenmmkaochabDoor.N

namespace Go.Proofs.YtcboenmmkaochabDoor.N
open Go.ChangeShapes Go.WideShapes Go.ChangeAt Go.RowKit
set_option maxHeartbeats 1000000
set_option maxRecDepth 100000

/-- The reference's read, the whole packet. -/
theorem read_true (v : Value) (L : List Nat) (w : World) (hv : SeesB w v L) (hl : L.length ≤ 140737488355328) :
    Calls Tryd.prog 69 #[v, .bool true] w fun e w' => ∃ vo vb, e = .returned (.tuple #[.agg (pkCells (parsed L).1 vo vb), .int .i64 (parsed L).2.2]) ∧ SeesB w' vo (parsed L).1.opts ∧ SeesB w' vb (parsed L).2.1 ∧ (∀ a n c, vo = .slice (some a) n c → w.heap.size ≤ a.block) ∧ (∀ a n c, vb = .slice (some a) n c → w.heap.size ≤ a.block) ∧ Below w.heap.size w w' := by
  by_cases he : (exam L true).2.2 = 0
  · have := read_good v L true w hv hl he
    have hp : parsed L = (rdH (L.take (exam L true).2.1) (exam L true).1, (L.take (exam L true).2.1).drop (exam L true).1, 0) := by unfold parsed; rw [if_pos he]
    rw [hp]
    exact this
  · have hp : parsed L = (zeroH, [], (exam L true).2.2) := by unfold parsed; rw [if_neg he]
    rw [hp]
    refine (read_bad v L true w hv hl he).mono ?_
    rintro e w' ⟨rfl, hb⟩
    exact ⟨.slice none 0 0, .slice none 0 0, rfl, sees_nil _, sees_nil _, (fun _ _ _ h => by cases h), (fun _ _ _ h => by cases h), hb⟩

end Go.Proofs.YtcboenmmkaochabDoor.N

namespace Go.Proofs.YtcboenmmkaochabDoor.N
open Go.ChangeShapes Go.WideShapes Go.ChangeAt Go.RowKit
set_option maxHeartbeats 1000000
set_option maxRecDepth 100000

/-- What is read of bytes: header, body, error. -/
def readL (L : List Nat) (whole : Bool) : Hd × List Nat × Int :=
  if (exam L whole).2.2 = 0 then (rdH (L.take (exam L whole).2.1) (exam L whole).1, (L.take (exam L whole).2.1).drop (exam L whole).1, 0) else (zeroH, [], (exam L whole).2.2)

/-- A new block, written whole. -/
structure New (u u' : World) (pa : Array Value) : Prop where
  below : Below u.heap.size u u'
  range : u'.rangeAt u.heap.size 0 pa.toList
  lt : u.heap.size < u'.heap.size

theorem new_there {u : World} {Z pa : Array Value} {T : TypeId} (hz : pa.size = Z.size) : (u.alloc (.cells Z T)).there u.heap.size 0 pa.size := there_blk (C := Z) (t := T) (heap_alloc_new u _) hz

theorem new_put {u : World} {Z pa : Array Value} {T : TypeId} (hz : pa.size = Z.size) : New u ((u.alloc (.cells Z T)).setCells u.heap.size 0 pa.toList) pa := by
  have hb : Below u.heap.size u ((u.alloc (.cells Z T)).setCells u.heap.size 0 pa.toList) := below_setCells' (Nat.le_refl _) _ _ _ ((Below.refl _ _).alloc (Nat.le_refl _) _)
  have hb' : Below (u.heap.size + 1) (u.alloc (.cells Z T)) ((u.alloc (.cells Z T)).setCells u.heap.size 0 pa.toList) → True := fun _ => trivial
  refine ⟨hb, World.rangeAt_setCells_same _ u.heap.size 0 pa.toList (by rw [Array.length_toList]; exact new_there hz), ?_⟩
  have h2 : ∀ (vs : List Value) (o : Nat) (w : World), (w.setCells u.heap.size o vs).heap.size = w.heap.size := by
    intro vs
    induction vs with
    | nil => intro o w; rfl
    | cons v vs ih => intro o w; rw [World.setCells, ih]; simp [World.setCell]
  rw [h2]; simp

theorem load_range {w : World} {b : Nat} {pa : Array Value} {T : TypeId} (h : w.rangeAt b 0 pa.toList) (hu : ∃ fs, Tryd.prog.underlying T = some (.struct fs)) (hi : (Tryd.prog.info? T).map (·.size) = some pa.size) :
    (Instr.loadAt T (.pointer (some ⟨b, 0, none⟩))).run Tryd.prog w = .ok (.agg pa) w := by
  obtain ⟨fs, hu⟩ := hu
  exact run_loadAt_mid w b 0 T pa.toList (.struct fs) h hu rfl (by rw [Array.length_toList]; exact hi)

theorem load_var {w : World} {b : Nat} {pa : Array Value} {T : TypeId} (h : w.there b 0 pa.size) (hu : ∃ fs, Tryd.prog.underlying T = some (.struct fs)) (hi : (Tryd.prog.info? T).map (·.size) = some pa.size) :
    (loadVar T ⟨b, 0, none⟩).run Tryd.prog (w.setCells b 0 pa.toList) = .ok (.agg pa) (w.setCells b 0 pa.toList) := by
  obtain ⟨fs, hu⟩ := hu
  exact run_loadVar_mid _ b 0 T pa.toList (.struct fs) (World.rangeAt_setCells_same w b 0 pa.toList (by rw [Array.length_toList]; exact h)) hu rfl (by rw [Array.length_toList]; exact hi)

theorem range_grow {w w' : World} {b : Nat} {cs : List Value} (h : w.rangeAt b 0 cs) (hb : Below w.heap.size w w') (hlt : b < w.heap.size) : w'.rangeAt b 0 cs := fun j v hv => (hb.cell (p := ⟨b, 0 + j, none⟩) hlt).trans (h j v hv)

theorem hd_one (h : Hd) (ao : Option Addr) (n c : Nat) : (hdCells h (.slice ao n c)).all (·.oneCell') = true := by simp [hdCells, Value.oneCell']

def Z27c : Array Value := #[.int .u8 0, .int .u16 0, .bool false, .bool false, .int .i64 0, .int .u8 0, .int .u8 0, .int .u32 0, .int .u32 0, .slice none 0 0]

theorem read_any (v : Value) (L : List Nat) (whole : Bool) (w : World) (hv : SeesB w v L) (hl : L.length ≤ 140737488355328) :
    Calls Tryd.prog 69 #[v, .bool whole] w fun e w' => ∃ vo vb, e = .returned (.tuple #[.agg (pkCells (readL L whole).1 vo vb), .int .i64 (readL L whole).2.2]) ∧ SeesB w' vo (readL L whole).1.opts ∧ SeesB w' vb (readL L whole).2.1 ∧ (∀ a n c, vo = .slice (some a) n c → w.heap.size ≤ a.block) ∧ (∀ a n c, vb = .slice (some a) n c → w.heap.size ≤ a.block) ∧ Below w.heap.size w w' := by
  by_cases he : (exam L whole).2.2 = 0
  · have := read_good v L whole w hv hl he
    have hp : readL L whole = (rdH (L.take (exam L whole).2.1) (exam L whole).1, (L.take (exam L whole).2.1).drop (exam L whole).1, 0) := by unfold readL; rw [if_pos he]
    rw [hp]
    exact this
  · have hp : readL L whole = (zeroH, [], (exam L whole).2.2) := by unfold readL; rw [if_neg he]
    rw [hp]
    refine (read_bad v L whole w hv hl he).mono ?_
    rintro e w' ⟨rfl, hb⟩
    exact ⟨.slice none 0 0, .slice none 0 0, rfl, sees_nil _, sees_nil _, (fun _ _ _ h => by cases h), (fun _ _ _ h => by cases h), hb⟩

theorem SeesB.takeS {w : World} {ao : Option Addr} {n cap : Nat} {L : List Nat} (h : SeesB w (.slice ao n cap) L) (b : Nat) (hb : b ≤ n) : SeesB w (.slice ao b cap) (L.take b) := by
  obtain ⟨ao1, cap1, hv, h1, h2, h3⟩ := h
  simp at hv
  obtain ⟨rfl, hlen, rfl⟩ := hv
  refine ⟨ao, cap, by rw [List.length_take]; congr 1; omega, ⟨by rw [List.length_take]; omega, h1.2⟩, h2, fun j hj => ?_⟩
  rw [List.length_take] at hj
  obtain ⟨g, off, ha, hg, hc, hb⟩ := h3 j (by omega)
  exact ⟨g, off, ha, hg, by rw [List.getElem_take]; exact hc, by rw [List.getElem_take]; exact hb⟩

/-- The program's Peek, refused. -/
theorem peek_bad (v : Value) (L : List Nat) (w : World) (hv : SeesB w v L) (hl : L.length ≤ 140737488355328) (he : (exam L false).2.2 ≠ 0) :
    Calls Tryd.prog 49 #[v] w fun e w' => e = .returned (.tuple #[.agg Z27c, .slice none 0 0, .int .i64 (exam L false).2.2]) ∧ Below w.heap.size w w' := by
  obtain ⟨w1, hw1⟩ : ∃ w1, w1 = w.alloc (.cells Z27c 33) := ⟨_, rfl⟩
  have hb1 : Below w.heap.size w w1 := by rw [hw1]; exact (Below.refl _ _).alloc (Nat.le_refl _) _
  have hs1 : w1.heap.size = w.heap.size + 1 := by rw [hw1]; simp
  have HX := hid (exam_code v L false w1 (hv.below hb1) hl)
  have HTH : Hid (∀ u, Below w1.heap.size w1 u → u.there w.heap.size 0 10) := fun u hu => by
    refine there_blk (C := Z27c) (t := 33) ?_ rfl
    rw [hu.block _ (by omega), hw1]
    exact heap_alloc_new w _
  have HW1 : Hid (w1 = w.alloc (.cells #[.int .u8 0, .int .u16 0, .bool false, .bool false, .int .i64 0, .int .u8 0, .int .u8 0, .int .u32 0, .int .u32 0, .slice none 0 0] 33)) := hw1
  have HB1 := hid hb1
  obtain ⟨ao, n, cap, rfl, _, _, _⟩ := hv.shape
  generalize exam L false = t at *
  obtain ⟨h, l, z⟩ := t
  simp only at *
  have hq : (z != 0) = true := by simp [he]
  obtain ⟨zz, hzz⟩ : ∃ zz : Array Value, zz = Z27c := ⟨_, rfl⟩
  have HZ : Hid (zz = #[.int .u8 0, .int .u16 0, .bool false, .bool false, .int .i64 0, .int .u8 0, .int .u8 0, .int .u32 0, .int .u32 0, .slice none 0 0]) := hzz
  have HONE : Hid (zz.all (·.oneCell') = true) := by unfold Hid; rw [hzz]; simp [Z27c, Value.oneCell']
  have HINF : Hid ((Tryd.prog.info? 33).map (·.size) = some zz.size) := by unfold Hid; rw [hzz]; exact size27
  rw [← hzz]
  clear hw1 hb1 hs1 hv he
  go_enter Tryd.func49, Tryd.ntmps49
  go_upto_region 1 with fail
  rw [← HW1.out]
  go_wp2_with fail
  refine HX.out.mono ?_
  rintro _ w2 ⟨rfl, hb2⟩
  have HTZ : Hid (w2.there w.heap.size 0 zz.size) := by unfold Hid; rw [hzz]; exact HTH.out _ hb2
  have HLV := hid (load_var HTZ.out und27 HINF.out)
  have HBF : Hid (Below w.heap.size w (w2.setCells w.heap.size 0 zz.toList)) := below_setCells' (Nat.le_refl _) _ _ _ (HB1.out.trans (hb2.mono HB1.out.size))
  clear hzz HTH HX hb2
  go_wp2_with (first
    | (refine wpList_store_mid rfl 33 (.tmp 2) (.tmp 18) rfl w.heap.size 0 zz rfl (by rw [HZ.out]; rfl) HTZ.out HINF.out HONE.out ?_)
    | fail)
  generalize w2.setCells w.heap.size 0 zz.toList = wf at HLV HBF ⊢
  refine bodyPost_ret (v := .tuple #[.agg zz, .slice none 0 0, .int .i64 z]) (by simp [results, Tryd.results49, asAddr, HLV.out]) rfl ?_
  exact ⟨rfl, HBF.out⟩

set_option maxHeartbeats 2000000 in
/-- The program's Peek, read. -/
theorem peek_good (v : Value) (L : List Nat) (w : World) (hv : SeesB w v L) (hl : L.length ≤ 140737488355328) (he : (exam L false).2.2 = 0) :
    Calls Tryd.prog 49 #[v] w fun e w' => ∃ vo vb, e = .returned (.tuple #[.agg (hdCells (rdH (L.take (exam L false).2.1) (exam L false).1) vo), vb, .int .i64 0]) ∧ SeesB w' vo (rdH (L.take (exam L false).2.1) (exam L false).1).opts ∧ SeesB w' vb ((L.take (exam L false).2.1).drop (exam L false).1) ∧ (∀ a n c, vo = .slice (some a) n c → w.heap.size ≤ a.block) ∧ (∀ a n c, vb = .slice (some a) n c → w.heap.size ≤ a.block) ∧ Below w.heap.size w w' := by
  obtain ⟨e1, e2, e3⟩ := exam_ok he
  obtain ⟨a1, a2, a3, a4, a5, a6, a7⟩ := lens_ok e1
  have hl16 := w16_lt hv.bytes 2
  rw [← a7] at hl16
  rw [← e3] at a1 a2 a3 a4 hl16
  clear e1 e2 e3 a5 a6 a7
  obtain ⟨w1, hw1⟩ : ∃ w1, w1 = w.alloc (.cells Z27c 33) := ⟨_, rfl⟩
  have hb1 : Below w.heap.size w w1 := by rw [hw1]; exact (Below.refl _ _).alloc (Nat.le_refl _) _
  have hs1 : w1.heap.size = w.heap.size + 1 := by rw [hw1]; simp
  have HX := hid (exam_code v L false w1 (hv.below hb1) hl)
  have HTH : Hid (∀ u, Below w1.heap.size w1 u → u.there w.heap.size 0 10) := fun u hu => by
    refine there_blk (C := Z27c) (t := 33) ?_ rfl
    rw [hu.block _ (by omega), hw1]
    exact heap_alloc_new w _
  have HW1 : Hid (w1 = w.alloc (.cells #[.int .u8 0, .int .u16 0, .bool false, .bool false, .int .i64 0, .int .u8 0, .int .u8 0, .int .u32 0, .int .u32 0, .slice none 0 0] 33)) := hw1
  have HB1 := hid hb1
  obtain ⟨ao, n, cap, rfl, HN, hn1, hn2⟩ := hv.shape
  unfold maxLen at hn2
  have hnl : n ≤ 140737488355328 := by have := HN.out; omega
  have HSV := hid hv
  generalize exam L false = t at *
  obtain ⟨h, l, z⟩ := t
  simp only at *
  subst he
  obtain ⟨l', hl'⟩ : ∃ l', l' = min l n := ⟨_, rfl⟩
  have HBD : Hid (L.take l = L.take l') := by
    unfold Hid
    rcases Nat.le_total l n with g | g
    · rw [hl', Nat.min_eq_left g]
    · rw [hl', Nat.min_eq_right g, List.take_of_length_le (by have := HN.out; omega), List.take_of_length_le (by have := HN.out; omega)]
  rw [HBD.out]
  have HSH := hid (HSV.out.takeS l' (by omega))
  have HUP : Hid (∀ u, Below w1.heap.size w1 u → Calls Tryd.prog 68 #[.slice ao l' cap, .int .i64 (h : Int)] u fun e w' => ∃ vo vb, e = .returned (.tuple #[.agg (hdCells (rdH (L.take l') h) vo), vb]) ∧ SeesB w' vo (rdH (L.take l') h).opts ∧ SeesB w' vb ((L.take l').drop h) ∧ (∀ a n c, vo = .slice (some a) n c → u.heap.size ≤ a.block) ∧ (∀ a n c, vb = .slice (some a) n c → u.heap.size ≤ a.block) ∧ Below u.heap.size u w') := fun u hu =>
    unpack_any _ (L.take l') h u (HSH.out.below (HB1.out.trans (hu.mono HB1.out.size))) a1 (by rw [List.length_take]; have := HN.out; omega) (by rw [List.length_take]; omega)
  generalize rdH (L.take l') h = H at *
  generalize (L.take l').drop h = BD at *
  have HS1 := hid hs1
  clear hw1 hb1 hs1 hv HSH
  rcases Nat.lt_or_ge n l with g | g
  · obtain rfl : l' = n := by omega
    clear hl' HBD
    go_enter Tryd.func49, Tryd.ntmps49
    go_upto_region 1 with fail
    rw [← HW1.out]
    go_wp2_with fail
    refine HX.out.mono ?_
    rintro _ w2 ⟨rfl, hb2⟩
    go_wp2_with fail
    refine (HUP.out _ hb2).mono ?_
    rintro _ w3 ⟨vo, vb, rfl, hso, hsb, hko, hkb, hb3⟩
    obtain ⟨a1', n1, c1, rfl, _, _, _⟩ := hso.shape
    obtain ⟨a2', n2, c2, rfl, _, _, _⟩ := hsb.shape
    obtain ⟨pa, hpa⟩ : ∃ pa : Array Value, pa = hdCells H (.slice a1' n1 c1) := ⟨_, rfl⟩
    have HPA := hid hpa
    have hpz : pa.size = Z27c.size := by rw [hpa]; rfl
    have HZA : Hid ((Tryd.prog.info? 33).map (·.size) = some pa.size) := by unfold Hid; rw [hpa]; exact size27
    have HOA : Hid (pa.all (·.oneCell') = true) := by unfold Hid; rw [hpa]; exact hd_one _ _ _ _
    have HTA := hid (new_there (u := w3) (T := 33) hpz)
    have HNW := new_put (u := w3) (T := 33) hpz
    obtain ⟨w4, hw4⟩ : ∃ w4, w4 = (w3.alloc (.cells Z27c 33)).setCells w3.heap.size 0 pa.toList := ⟨_, rfl⟩
    rw [← hw4] at HNW
    have HW4 : Hid (w4 = (w3.alloc (.cells #[.int .u8 0, .int .u16 0, .bool false, .bool false, .int .i64 0, .int .u8 0, .int .u8 0, .int .u32 0, .int .u32 0, .slice none 0 0] 33)).setCells w3.heap.size 0 pa.toList) := hw4
    have hb23 : Below w1.heap.size w1 w3 := hb2.trans (hb3.mono hb2.size)
    have hb4 : Below w1.heap.size w1 w4 := hb23.trans (HNW.below.mono hb23.size)
    have HLD := hid (load_range HNW.range und27 HZA.out)
    have HTZ : Hid (w4.there w.heap.size 0 pa.size) := by unfold Hid; rw [hpz]; exact HTH.out _ hb4
    have HLV := hid (load_var HTZ.out und27 HZA.out)
    have HBF : Hid (Below w.heap.size w (w4.setCells w.heap.size 0 pa.toList)) := below_setCells' (Nat.le_refl _) _ _ _ (HB1.out.trans (hb4.mono HB1.out.size))
    have hlt2 : w.heap.size < w2.heap.size := by have := hb2.size; have := HS1.out; omega
    have HSO : Hid (SeesB (w4.setCells w.heap.size 0 pa.toList) (.slice a1' n1 c1) H.opts) := sees_set' (hso.below HNW.below) (fun a ha => by have := hko a n1 c1 (by rw [ha]); omega)
    have HSB : Hid (SeesB (w4.setCells w.heap.size 0 pa.toList) (.slice a2' n2 c2) BD) := sees_set' (hsb.below HNW.below) (fun a ha => by have := hkb a n2 c2 (by rw [ha]); omega)
    have HKO : Hid (∀ a n c, (Value.slice a1' n1 c1) = .slice (some a) n c → w.heap.size ≤ a.block) := fun a n c e => by have := hko a n c e; omega
    have HKB : Hid (∀ a n c, (Value.slice a2' n2 c2) = .slice (some a) n c → w.heap.size ≤ a.block) := fun a n c e => by have := hkb a n c e; omega
    rw [← hpa]
    clear hpa hpz hw4 hb2 hb3 hb23 hb4 hlt2 hso hsb hko hkb HUP HTH HNW
    go_upto_region 5 with (first
      | (refine wpList_store_mid rfl 33 (.tmp 8) (.tmp 29) rfl w3.heap.size 0 pa rfl rfl HTA.out HZA.out HOA.out ?_)
      | fail)
    rw [← HW4.out]
    go_wp2_with (first
      | (refine wpList_ld 33 ⟨w3.heap.size, 0, none⟩ (.tmp 8) rfl rfl HLD.out rfl ?_)
      | (refine wpList_store_mid rfl 33 (.tmp 2) (.tmp 31) rfl w.heap.size 0 pa rfl rfl HTZ.out HZA.out HOA.out ?_)
      | fail)
    generalize w4.setCells w.heap.size 0 pa.toList = wf at HLV HBF HSO HSB ⊢
    refine bodyPost_ret (v := .tuple #[.agg pa, .slice a2' n2 c2, .int .i64 0]) (by simp [results, Tryd.results49, asAddr, HLV.out]) rfl ?_
    exact ⟨.slice a1' n1 c1, .slice a2' n2 c2, by rw [HPA.out], HSO.out, HSB.out, HKO.out, HKB.out, HBF.out⟩
  · obtain rfl : l' = l := by omega
    clear hl' HBD
    go_enter Tryd.func49, Tryd.ntmps49
    go_upto_region 1 with fail
    rw [← HW1.out]
    go_wp2_with fail
    refine HX.out.mono ?_
    rintro _ w2 ⟨rfl, hb2⟩
    go_wp2_with fail
    refine (HUP.out _ hb2).mono ?_
    rintro _ w3 ⟨vo, vb, rfl, hso, hsb, hko, hkb, hb3⟩
    obtain ⟨a1', n1, c1, rfl, _, _, _⟩ := hso.shape
    obtain ⟨a2', n2, c2, rfl, _, _, _⟩ := hsb.shape
    obtain ⟨pa, hpa⟩ : ∃ pa : Array Value, pa = hdCells H (.slice a1' n1 c1) := ⟨_, rfl⟩
    have HPA := hid hpa
    have hpz : pa.size = Z27c.size := by rw [hpa]; rfl
    have HZA : Hid ((Tryd.prog.info? 33).map (·.size) = some pa.size) := by unfold Hid; rw [hpa]; exact size27
    have HOA : Hid (pa.all (·.oneCell') = true) := by unfold Hid; rw [hpa]; exact hd_one _ _ _ _
    have HTA := hid (new_there (u := w3) (T := 33) hpz)
    have HNW := new_put (u := w3) (T := 33) hpz
    obtain ⟨w4, hw4⟩ : ∃ w4, w4 = (w3.alloc (.cells Z27c 33)).setCells w3.heap.size 0 pa.toList := ⟨_, rfl⟩
    rw [← hw4] at HNW
    have HW4 : Hid (w4 = (w3.alloc (.cells #[.int .u8 0, .int .u16 0, .bool false, .bool false, .int .i64 0, .int .u8 0, .int .u8 0, .int .u32 0, .int .u32 0, .slice none 0 0] 33)).setCells w3.heap.size 0 pa.toList) := hw4
    have hb23 : Below w1.heap.size w1 w3 := hb2.trans (hb3.mono hb2.size)
    have hb4 : Below w1.heap.size w1 w4 := hb23.trans (HNW.below.mono hb23.size)
    have HLD := hid (load_range HNW.range und27 HZA.out)
    have HTZ : Hid (w4.there w.heap.size 0 pa.size) := by unfold Hid; rw [hpz]; exact HTH.out _ hb4
    have HLV := hid (load_var HTZ.out und27 HZA.out)
    have HBF : Hid (Below w.heap.size w (w4.setCells w.heap.size 0 pa.toList)) := below_setCells' (Nat.le_refl _) _ _ _ (HB1.out.trans (hb4.mono HB1.out.size))
    have hlt2 : w.heap.size < w2.heap.size := by have := hb2.size; have := HS1.out; omega
    have HSO : Hid (SeesB (w4.setCells w.heap.size 0 pa.toList) (.slice a1' n1 c1) H.opts) := sees_set' (hso.below HNW.below) (fun a ha => by have := hko a n1 c1 (by rw [ha]); omega)
    have HSB : Hid (SeesB (w4.setCells w.heap.size 0 pa.toList) (.slice a2' n2 c2) BD) := sees_set' (hsb.below HNW.below) (fun a ha => by have := hkb a n2 c2 (by rw [ha]); omega)
    have HKO : Hid (∀ a n c, (Value.slice a1' n1 c1) = .slice (some a) n c → w.heap.size ≤ a.block) := fun a n c e => by have := hko a n c e; omega
    have HKB : Hid (∀ a n c, (Value.slice a2' n2 c2) = .slice (some a) n c → w.heap.size ≤ a.block) := fun a n c e => by have := hkb a n c e; omega
    rw [← hpa]
    clear hpa hpz hw4 hb2 hb3 hb23 hb4 hlt2 hso hsb hko hkb HUP HTH HNW
    go_upto_region 5 with (first
      | (refine wpList_store_mid rfl 33 (.tmp 8) (.tmp 29) rfl w3.heap.size 0 pa rfl rfl HTA.out HZA.out HOA.out ?_)
      | fail)
    rw [← HW4.out]
    go_wp2_with (first
      | (refine wpList_ld 33 ⟨w3.heap.size, 0, none⟩ (.tmp 8) rfl rfl HLD.out rfl ?_)
      | (refine wpList_store_mid rfl 33 (.tmp 2) (.tmp 31) rfl w.heap.size 0 pa rfl rfl HTZ.out HZA.out HOA.out ?_)
      | fail)
    generalize w4.setCells w.heap.size 0 pa.toList = wf at HLV HBF HSO HSB ⊢
    refine bodyPost_ret (v := .tuple #[.agg pa, .slice a2' n2 c2, .int .i64 0]) (by simp [results, Tryd.results49, asAddr, HLV.out]) rfl ?_
    exact ⟨.slice a1' n1 c1, .slice a2' n2 c2, by rw [HPA.out], HSO.out, HSB.out, HKO.out, HKB.out, HBF.out⟩
end Go.Proofs.YtcboenmmkaochabDoor.N

namespace Go.Proofs.YtcboenmmkaochabDoor.N
open Go.ChangeShapes Go.WideShapes Go.ChangeAt Go.RowKit
set_option maxHeartbeats 4000000
set_option maxRecDepth 100000

def op6 (k : Int) (vy : Value) (m : Im.Ct) (vm : Value) (h : Hd) (vo vb : Value) (t c : Nat) (a : Int) (f : Nat) : List Value :=
  [.int .i64 k, vy, .int .u8 (m.t : Int), .int .u8 (m.c : Int), .int .u32 (m.r : Int), vm, .int .u8 (h.tos : Int), .int .u16 (h.id : Int), .bool h.df, .bool h.mf, .int .i64 h.off, .int .u8 (h.ttl : Int), .int .u8 (h.proto : Int), .int .u32 (h.src : Int), .int .u32 (h.dst : Int), vo, vb, .int .u8 (t : Int), .int .u8 (c : Int), .int .i64 a, .int .u32 (f : Int)]

/-- What was answered lies in a block of its own. -/
theorem put_new {w2 : World} {T : TypeId} {Z pa : Array Value} (hz : pa.size = Z.size) :
    (w2.alloc (.cells Z T)).there w2.heap.size 0 pa.size ∧ Below w2.heap.size w2 ((w2.alloc (.cells Z T)).setCells w2.heap.size 0 pa.toList) ∧ ((w2.alloc (.cells Z T)).setCells w2.heap.size 0 pa.toList).rangeAt w2.heap.size 0 pa.toList ∧ w2.heap.size < ((w2.alloc (.cells Z T)).setCells w2.heap.size 0 pa.toList).heap.size :=
  have h := new_put (u := w2) (T := T) hz
  ⟨new_there hz, h.below, h.range, h.lt⟩

theorem ct_one (m : Im.Ct) {w : World} {v : Value} {L : List Nat} (h : SeesB w v L) : (ctCells m v).all (·.oneCell') = true := by
  obtain ⟨a1, n1, c1, rfl, _, _, _⟩ := h.shape
  simp [ctCells, Value.oneCell']

theorem plays_1 (vy : Value) (L : List Nat) (m : Im.Ct) (vm : Value) (h : Hd) (vo vb : Value) (t c : Nat) (a : Int) (f : Nat) (w : World) (hv : SeesB w vy L) :
    Calls Tryd.prog 11 #[.agg (op6 1 vy m vm h vo vb t c a f).toArray] w fun e w' => e = .returned (.bool true) ∧ Below w.heap.size w w' := by
  obtain ⟨w1, hw1⟩ : ∃ w1, w1 = w.alloc (.cells (op6 1 vy m vm h vo vb t c a f).toArray 37) := ⟨_, rfl⟩
  have hb1 : Below w.heap.size w w1 := by rw [hw1]; exact (Below.refl _ _).alloc (Nat.le_refl _) _
  have hs1 : w1.heap.size = w.heap.size + 1 := by rw [hw1]; simp
  have HC : Hid (∀ u, Below w1.heap.size w1 u → u.cell? ⟨w.heap.size, 1, none⟩ = some vy) := fun u hu =>
    blk_at (cs := op6 1 vy m vm h vo vb t c a f) (t := 37) (by rw [hu.block w.heap.size (by omega), hw1]; exact blk_new _ _ _) 1 vy rfl
  have HP1 := hid (iparse_any vy L w1 (hv.below hb1))
  have HP2 : Hid (∀ u, Below w1.heap.size w1 u → Calls Tryd.prog 16 #[vy] u fun e w' => ∃ ao n cap, e = .returned (.tuple #[.agg (ctCells (Im.prC L) (.slice ao n cap)), .int .i64 (Im.prE L)]) ∧ SeesB w' (.slice ao n cap) (Im.prC L).B ∧ (∀ a, ao = some a → u.heap.size ≤ a.block) ∧ Below u.heap.size u w') := fun u hu => rparse_any vy L u (hv.below (hb1.trans (hu.mono hb1.size)))
  obtain ⟨ao, n, cap, rfl, _, _, _⟩ := hv.shape
  have HW1 : Hid (w1 = w.alloc (.cells (op6 1 (.slice ao n cap) m vm h vo vb t c a f).toArray 37)) := hw1
  have HB1 := hid hb1
  have c1 := HC.out _ (Below.refl _ _)
  clear hw1 hb1 hs1 hv
  generalize Im.prC L = H at *
  generalize Im.prE L = q at *
  have hqq : (q == q) = true := by simp
  unfold op6 at HW1 ⊢
  go_enter Tryd.func11, Tryd.ntmps11
  go_upto_region 3 with fail
  rw [← HW1.out]
  go_wp2_with fail
  refine HP1.out.mono ?_
  rintro _ w2 ⟨a1, n1, k1, rfl, ha, _, hb2⟩
  obtain ⟨pa, hpa⟩ : ∃ pa : Array Value, pa = ctCells H (.slice a1 n1 k1) := ⟨_, rfl⟩
  obtain ⟨w3, hw3⟩ : ∃ w3, w3 = (w2.alloc (.cells zeroC 29)).setCells w2.heap.size 0 pa.toList := ⟨_, rfl⟩
  have HPA := hid hpa
  have HZA : Hid ((Tryd.prog.info? 29).map (·.size) = some pa.size) := by unfold Hid; rw [hpa]; exact size_ct
  have HOA : Hid (pa.all (·.oneCell') = true) := by unfold Hid; rw [hpa]; exact ct_one H ha
  obtain ⟨hta, hb23, hrg3, hlt2⟩ := put_new (w2 := w2) (T := 29) (Z := zeroC) (pa := pa) (by rw [hpa]; rfl)
  rw [← hw3] at hb23 hrg3 hlt2
  have HTA := hid hta
  have hb3 : Below w1.heap.size w1 w3 := hb2.trans (hb23.mono hb2.size)
  have HA := hid (ha.below hb23)
  have HW3 : Hid (w3 = (w2.alloc (.cells #[.int .u8 0, .int .u8 0, .int .u32 0, .slice none 0 0] 29)).setCells w2.heap.size 0 pa.toList) := hw3
  have c3 := HC.out _ hb3
  have HLT2 := hid hlt2
  have HRG3 := hid hrg3
  rw [← hpa]
  clear hpa hw3 ha hb2 hb23 HP1 c1 hta hrg3 hlt2
  go_upto_region 4 with (first
    | (refine wpList_store_mid rfl 29 (.tmp 3) (.tmp 33) rfl w2.heap.size 0 pa rfl rfl HTA.out HZA.out HOA.out ?_)
    | fail)
  rw [← HW3.out]
  go_wp2_with fail
  refine (HP2.out _ hb3).mono ?_
  rintro _ w4 ⟨a2, n2, k2, rfl, hb', _, hb4⟩
  obtain ⟨pb, hpb⟩ : ∃ pb : Array Value, pb = ctCells H (.slice a2 n2 k2) := ⟨_, rfl⟩
  obtain ⟨w5, hw5⟩ : ∃ w5, w5 = (w4.alloc (.cells zeroC 29)).setCells w4.heap.size 0 pb.toList := ⟨_, rfl⟩
  have HPB := hid hpb
  have HZB : Hid ((Tryd.prog.info? 29).map (·.size) = some pb.size) := by unfold Hid; rw [hpb]; exact size_ct
  have HOB : Hid (pb.all (·.oneCell') = true) := by unfold Hid; rw [hpb]; exact ct_one H hb'
  obtain ⟨htb, hb45, hrg5, hlt4⟩ := put_new (w2 := w4) (T := 29) (Z := zeroC) (pa := pb) (by rw [hpb]; rfl)
  rw [← hw5] at hb45 hrg5 hlt4
  have HTB := hid htb
  have hb35 : Below w3.heap.size w3 w5 := hb4.trans (hb45.mono hb4.size)
  have hb5 : Below w1.heap.size w1 w5 := hb3.trans (hb35.mono hb3.size)
  have HLA := hid (load_range (T := 29) (range_grow HRG3.out hb35 HLT2.out) ⟨_, Tryd.underlying29⟩ HZA.out)
  have HLB := hid (load_range (T := 29) hrg5 ⟨_, Tryd.underlying29⟩ HZB.out)
  have HPK : Hid (Calls Tryd.prog 17 #[.agg pa, .agg pb] w5 fun e w' => e = .returned (.bool true) ∧ Below w5.heap.size w5 w') := by
    unfold Hid
    rw [HPA.out, HPB.out]
    exact controls_same H _ _ w5 (HA.out.below hb35) (hb'.below hb45)
  have HW5 : Hid (w5 = (w4.alloc (.cells #[.int .u8 0, .int .u8 0, .int .u32 0, .slice none 0 0] 29)).setCells w4.heap.size 0 pb.toList) := hw5
  have HB5 := hid hb5
  rw [← hpb]
  clear hpb hw5 hb' hb4 hb45 hb35 hb5 hrg5 HP2 c3 hlt4 htb
  go_upto_region 5 with (first
    | (refine wpList_store_mid rfl 29 (.tmp 5) (.tmp 39) rfl w4.heap.size 0 pb rfl rfl HTB.out HZB.out HOB.out ?_)
    | fail)
  rw [← HW5.out]
  go_wp2_with (first
    | (refine wpList_ld 29 ⟨w2.heap.size, 0, none⟩ (.tmp 3) rfl rfl HLA.out rfl ?_)
    | (refine wpList_ld 29 ⟨w4.heap.size, 0, none⟩ (.tmp 5) rfl rfl HLB.out rfl ?_)
    | fail)
  refine HPK.out.mono ?_
  rintro _ w6 ⟨rfl, hb6⟩
  go_wp2_with fail
  go_ret
  exact ⟨rfl, HB1.out.trans ((HB5.out.trans (hb6.mono HB5.out.size)).mono HB1.out.size)⟩

theorem plays_2 (vy : Value) (m : Im.Ct) (vm : Value) (h : Hd) (vo vb : Value) (t c : Nat) (a : Int) (f : Nat) (w : World) (hok : m.Ok) (hv : SeesB w vm m.B) :
    Calls Tryd.prog 11 #[.agg (op6 2 vy m vm h vo vb t c a f).toArray] w fun e w' => e = .returned (.bool true) ∧ Below w.heap.size w w' := by
  obtain ⟨w1, hw1⟩ : ∃ w1, w1 = w.alloc (.cells (op6 2 vy m vm h vo vb t c a f).toArray 37) := ⟨_, rfl⟩
  have hb1 : Below w.heap.size w w1 := by rw [hw1]; exact (Below.refl _ _).alloc (Nat.le_refl _) _
  have hs1 : w1.heap.size = w.heap.size + 1 := by rw [hw1]; simp
  have HLD : Hid (∀ u, Below w1.heap.size w1 u → (Instr.loadAt 29 (.pointer (some ⟨w.heap.size, 2, none⟩))).run Tryd.prog u = .ok (.agg (ctCells m vm)) u) := fun u hu => by
    have hr := blk_at (cs := op6 2 vy m vm h vo vb t c a f) (t := 37) (u := u) (n := w.heap.size) (by rw [hu.block w.heap.size (by omega), hw1]; exact blk_new _ _ _)
    refine run_loadAt_mid u w.heap.size 2 29 (ctCells m vm).toList (.struct _) (fun j v hv => ?_) Tryd.underlying29 rfl size_ct
    have := hr (2 + j) v (by
      have e : op6 2 vy m vm h vo vb t c a f = [.int .i64 2, vy] ++ ((ctCells m vm).toList ++ (op6 2 vy m vm h vo vb t c a f).drop 6) := rfl
      have hj : j < (ctCells m vm).toList.length := (List.getElem?_eq_some_iff.1 hv).1
      rw [e, List.getElem?_append_right (by simp), List.getElem?_append_left (by simpa using hj)]
      simpa using hv)
    rwa [Nat.zero_add] at this
  have HP1 := hid (ibuild_any m vm w1 hok (hv.below hb1))
  have HP2 : Hid (∀ u, Below w1.heap.size w1 u → Calls Tryd.prog 19 #[.agg (ctCells m vm)] u fun e w' => ∃ v', e = .returned (.tuple #[v', .int .i64 (Im.bdE m)]) ∧ OwnB w' u.heap.size v' (Im.bdL m) ∧ Below u.heap.size u w') := fun u hu => rbuild_any m vm u hok (hv.below (hb1.trans (hu.mono hb1.size)))
  have HBS : Hid (∀ x ∈ Im.bdL m, x < 256) := by
    unfold Hid Im.bdL
    split
    · intro x hx; cases hx
    · exact Im.laid_bytes hok hv.bytes
  have HW1 := hid hw1
  have HB1 := hid hb1
  have HL1 := hid (HLD.out _ (Below.refl _ _))
  clear hw1 hb1 hs1 hv hok
  have HQ : Hid (∃ q : Int, q = Im.bdE m) := ⟨_, rfl⟩
  generalize Im.bdE m = q at *
  have hqq : (q == q) = true := by simp
  generalize Im.bdL m = bl at *
  generalize ctCells m vm = pk at *
  unfold op6 at HW1 ⊢
  go_enter Tryd.func11, Tryd.ntmps11
  go_upto_region 7 with fail
  rw [← HW1.out]
  go_wp2_with (first | (refine wpList_ld 29 ⟨w.heap.size, 2, none⟩ _ rfl rfl HL1.out rfl ?_) | fail)
  refine HP1.out.mono ?_
  rintro _ w2 ⟨a1, n1, c1, rfl, h1, _, hb2⟩
  have HL2 := hid (HLD.out _ hb2)
  have HH1 := hid h1
  clear h1
  go_wp2_with (first | (refine wpList_ld 29 ⟨w.heap.size, 2, none⟩ _ rfl rfl HL2.out rfl ?_) | fail)
  refine (HP2.out _ hb2).mono ?_
  rintro _ w3 ⟨v2, rfl, ho, hb3⟩
  have h2 := ho.sees HBS.out
  obtain ⟨a2, n2, c2, rfl, _, _, _⟩ := h2.shape
  have HSM : Hid (Calls Tryd.prog 20 #[.slice a1 n1 c1, .slice a2 n2 c2] w3 fun e w' => e = .returned (.bool true) ∧ Below w3.heap.size w3 w') := by
    have := same_any (.slice a1 n1 c1) (.slice a2 n2 c2) bl bl w3 (HH1.out.below hb3) h2
    rw [decide_eq_true (rfl : bl = bl)] at this
    exact this
  have HB3 := hid (hb2.trans (hb3.mono hb2.size))
  clear h2 hb3 hb2 ho
  go_wp2_with fail
  refine HSM.out.mono ?_
  rintro _ w4 ⟨rfl, hb4⟩
  go_wp2_with fail
  go_ret
  exact ⟨rfl, HB1.out.trans ((HB3.out.trans (hb4.mono HB3.out.size)).mono HB1.out.size)⟩
end Go.Proofs.YtcboenmmkaochabDoor.N

namespace Go.Proofs.YtcboenmmkaochabDoor.N
open Go.ChangeShapes Go.WideShapes Go.ChangeAt Go.RowKit
set_option maxRecDepth 100000

theorem cells_op : Tryd.prog.cellsOf 37 = 21 := by kernel_rfl
theorem cells_ct : Tryd.prog.cellsOf 29 = 4 := by kernel_rfl
theorem und_ops : Tryd.prog.underlying 22 = some (.slice 37) := by kernel_rfl
theorem und_ad : Tryd.prog.underlying 31 = some (.int .u32) := by kernel_rfl
theorem cell1_ad : Tryd.prog.cellsOf 31 = 1 := by kernel_rfl
theorem und_w : Tryd.prog.underlying 27 = some (.int .u32) := by kernel_rfl
theorem cell1_w : Tryd.prog.cellsOf 27 = 1 := by kernel_rfl
theorem und_ct : ∃ f0 f1 f2 f3, Tryd.prog.underlying 29 = some (.struct #[f0, f1, f2, f3]) ∧ f0.type = 5 ∧ f0.offset = 0 ∧ f1.type = 5 ∧ f1.offset = 1 ∧ f2.type = 27 ∧ f2.offset = 2 ∧ f3.type = 26 ∧ f3.offset = 3 := ⟨_, _, _, _, Tryd.underlying29, rfl, rfl, rfl, rfl, rfl, rfl, rfl, rfl⟩
theorem und_op : ∃ f0 f1 f2 f3 f4 f5 f6 f7, Tryd.prog.underlying 37 = some (.struct #[f0, f1, f2, f3, f4, f5, f6, f7]) ∧ f0.type = 3 ∧ f0.offset = 0 ∧ f1.type = 26 ∧ f1.offset = 1 ∧ f2.type = 29 ∧ f2.offset = 2 ∧ f3.type = 35 ∧ f3.offset = 6 ∧ f4.type = 5 ∧ f4.offset = 17 ∧ f5.type = 5 ∧ f5.offset = 18 ∧ f6.type = 3 ∧ f6.offset = 19 ∧ f7.type = 31 ∧ f7.offset = 20 :=
  ⟨_, _, _, _, _, _, _, _, Tryd.underlying37, rfl, rfl, rfl, rfl, rfl, rfl, rfl, rfl, rfl, rfl, rfl, rfl, rfl, rfl, rfl, rfl⟩

section
variable {H : Type} {enc : TypeId × Value → H} {W : World}

/-- A message that reads. -/
theorem open_ct {fuel : Nat} {cs : List Value} {x : DataW H × List MemPlace} (h : DataW.trod enc Tryd.prog W 0 (fun _ => true) true fuel 29 cs = some x) :
    ∃ (m : Im.Ct) (vm : Value), cs = (ctCells m vm).toList ∧ m.Ok ∧ SeesB W vm m.B ∧ Fits x.1 29 m.B.length ∧ vm.oneCell' = true := by
  obtain ⟨f0, f1, f2, f3, hu, t0, o0, t1, o1, t2, o2, t3, o3⟩ := und_ct
  obtain ⟨xs, n, _, rfl, hl, hxl, hf⟩ := DataW.trod_struct hu h
  match xs, hxl with
  | [y0, y1, y2, y3], _ =>
    have g0 := hf 0 f0 rfl
    have g1 := hf 1 f1 rfl
    have g2 := hf 2 f2 rfl
    have g3 := hf 3 f3 rfl
    rw [t0, o0, cell1_5] at g0
    rw [t1, o1, cell1_5] at g1
    rw [t2, o2, cell1_w] at g2
    rw [t3, o3, cell1_25] at g3
    rw [cells_ct] at hl
    obtain ⟨z0, e0, _, w0⟩ := DataW.trod_int u5 g0
    obtain ⟨T, rfl, hT⟩ := wf_u8 w0
    obtain ⟨z1, e1, _, w1⟩ := DataW.trod_int u5 g1
    obtain ⟨C, rfl, hC⟩ := wf_u8 w1
    obtain ⟨z2, e2, _, w2⟩ := DataW.trod_int und_w g2
    obtain ⟨R, rfl, hR⟩ := wf_u32 w2
    obtain ⟨vm, B, e3, hs, hfit, ho⟩ := open_bytes g3
    refine ⟨⟨T, C, R, B⟩, vm, ?_, ⟨hT, hC, hR⟩, hs, ⟨?_, fun hw => ?_⟩, ho⟩
    · match cs, hl with
      | [c0, c1, c2, c3], _ =>
        simp at e0 e1 e2 e3
        simp [ctCells, e0, e1, e2, e3]
    · simp only [List.map_cons, List.map_nil, Rows.uptoBulk, Rows.uptoBulkAll]
      have := hfit.bulk
      omega
    · refine hfit.room fun k hk => hw k ?_
      simp only [DataW.weights, hu]
      exact DataW.weights_mem_each (j := 3) (t := 26) (d := y3.1) (by simp [t3]) rfl _ hk

/-- What a step holds. -/
structure OpI where
  k : Int
  vy : Value
  By : List Nat
  m : Im.Ct
  vm : Value
  h : Hd
  vo : Value
  vb : Value
  B : List Nat
  t : Nat
  c : Nat
  a : Int
  f : Nat

def OpI.cells (o : OpI) : List Value := op6 o.k o.vy o.m o.vm o.h o.vo o.vb o.t o.c o.a o.f

structure OpI.Ok (o : OpI) (W : World) : Prop where
  klo : -9223372036854775808 ≤ o.k
  khi : o.k ≤ 9223372036854775807
  vy : SeesB W o.vy o.By
  m : o.m.Ok
  vm : SeesB W o.vm o.m.B
  h : o.h.Ok
  vo : SeesB W o.vo o.h.opts
  vb : SeesB W o.vb o.B
  t : o.t < 256
  c : o.c < 256
  alo : -9223372036854775808 ≤ o.a
  ahi : o.a ≤ 9223372036854775807
  f : o.f < 4294967296
  one : ∀ v ∈ o.cells, v.oneCell' = true
  ly : o.By.length ≤ reachBytes
  lm : o.m.B.length ≤ reachBytes
  lo : o.h.opts.length ≤ reachBytes
  lb : o.B.length ≤ reachBytes

/-- A step that reads. -/
theorem open_op {fuel : Nat} {cs : List Value} {x : DataW H × List MemPlace} (h : DataW.trod enc Tryd.prog W 0 (fun _ => true) true fuel 37 cs = some x) (hw : ∀ n ∈ x.1.weights Tryd.prog 37, n ≤ reachBytes) :
    ∃ o : OpI, cs = o.cells ∧ o.Ok W := by
  obtain ⟨f0, f1, f2, f3, f4, f5, f6, f7, hu, t0, o0, t1, o1, t2, o2, t3, o3, t4, o4, t5, o5, t6, o6, t7, o7⟩ := und_op
  obtain ⟨xs, n, _, rfl, hl, hxl, hf⟩ := DataW.trod_struct hu h
  match xs, hxl with
  | [y0, y1, y2, y3, y4, y5, y6, y7], _ =>
    have g0 := hf 0 f0 rfl
    have g1 := hf 1 f1 rfl
    have g2 := hf 2 f2 rfl
    have g3 := hf 3 f3 rfl
    have g4 := hf 4 f4 rfl
    have g5 := hf 5 f5 rfl
    have g6 := hf 6 f6 rfl
    have g7 := hf 7 f7 rfl
    rw [t0, o0, cell1_3] at g0
    rw [t1, o1, cell1_25] at g1
    rw [t2, o2, cells_ct] at g2
    rw [t3, o3, cells29] at g3
    rw [t4, o4, cell1_5] at g4
    rw [t5, o5, cell1_5] at g5
    rw [t6, o6, cell1_3] at g6
    rw [t7, o7, cell1_ad] at g7
    rw [cells_op] at hl
    obtain ⟨k, e0, _, w0⟩ := DataW.trod_int u3 g0
    obtain ⟨vy, By, e1, hs1, hf1, q1⟩ := open_bytes g1
    obtain ⟨m, vm, e2, hm, hs2, hf2, q2⟩ := open_ct g2
    obtain ⟨hd, vo, vb, B, e3, hok, hs6, hs7, hf6, hf7, q6, q7⟩ := open_pk g3
    obtain ⟨z4, e4, _, w4⟩ := DataW.trod_int u5 g4
    obtain ⟨T, rfl, hT⟩ := wf_u8 w4
    obtain ⟨z5, e5, _, w5⟩ := DataW.trod_int u5 g5
    obtain ⟨C, rfl, hC⟩ := wf_u8 w5
    obtain ⟨A, e6, _, w6⟩ := DataW.trod_int u3 g6
    obtain ⟨z7, e7, _, w7⟩ := DataW.trod_int und_ad g7
    obtain ⟨Fr, rfl, hFr⟩ := wf_u32 w7
    have hw1 : ∀ k ∈ y1.1.weights Tryd.prog 26, k ≤ reachBytes := fun k hk => hw k (by
      simp only [DataW.weights, hu]
      exact DataW.weights_mem_each (j := 1) (t := 26) (d := y1.1) (by simp [t1]) rfl _ hk)
    have hw2 : ∀ k ∈ y2.1.weights Tryd.prog 29, k ≤ reachBytes := fun k hk => hw k (by
      simp only [DataW.weights, hu]
      exact DataW.weights_mem_each (j := 2) (t := 29) (d := y2.1) (by simp [t2]) rfl _ hk)
    have hw3 : ∀ k ∈ y3.1.weights Tryd.prog 35, k ≤ reachBytes := fun k hk => hw k (by
      simp only [DataW.weights, hu]
      exact DataW.weights_mem_each (j := 3) (t := 35) (d := y3.1) (by simp [t3]) rfl _ hk)
    refine ⟨⟨k, vy, By, m, vm, hd, vo, vb, B, T, C, A, Fr⟩, ?_, ⟨(wf_i64 w0).1, (wf_i64 w0).2, hs1, hm, hs2, hok, hs6, hs7, hT, hC, (wf_i64 w6).1, (wf_i64 w6).2, hFr, ?_, hf1.room hw1, hf2.room hw2, hf6.room hw3, hf7.room hw3⟩⟩
    · match cs, hl with
      | [c0, c1, c2, c3, c4, c5, c6, c7, c8, c9, c10, c11, c12, c13, c14, c15, c16, c17, c18, c19, c20], _ =>
        simp [pkCells, ctCells] at e0 e1 e2 e3 e4 e5 e6 e7
        obtain ⟨rfl, rfl, rfl, rfl⟩ := e2
        obtain ⟨rfl, rfl, rfl, rfl, rfl, rfl, rfl, rfl, rfl, rfl, rfl⟩ := e3
        simp [OpI.cells, op6, e0, e1, e4, e5, e6, e7]
    · intro v hv
      simp only [OpI.cells, op6, List.mem_cons, List.not_mem_nil, or_false] at hv
      rcases hv with rfl | rfl | rfl | rfl | rfl | rfl | rfl | rfl | rfl | rfl | rfl | rfl | rfl | rfl | rfl | rfl | rfl | rfl | rfl | rfl | rfl
      all_goals first | rfl | assumption

/-- The steps that came in. -/
theorem open_ops {base : Nat} {v : Value} {d : DataW H} {ps : List MemPlace} (hval : Value.okWide Tryd.prog W .any base 22 v) (h : DataW.Trod enc Tryd.prog W 0 (fun _ => true) true 22 v d ps) (hw : ∀ x ∈ d.weights Tryd.prog 22, x ≤ reachBytes) :
    ∃ Os : List OpI, SeesP W v (Os.map fun o => (o.cells, o.k)) ∧ ∀ o ∈ Os, o.Ok W := by
  obtain ⟨a0, len, cap, rfl⟩ := okWide_slice und_ops hval
  obtain ⟨fuel, hf⟩ := h
  rcases Go.Deep.open_slice und_ops hf with ⟨h1, _⟩ | ⟨a, len', cap', m, n, D, Pl, h1, _, hlc, hcm, hm, hxx, hx⟩
  · simp [Value.cells] at h1
    obtain ⟨rfl, rfl, rfl⟩ := h1
    exact ⟨[], ⟨none, 0, rfl, by simp, by unfold maxLen; omega, fun j hj => absurd hj (by simp)⟩, fun o ho => by cases ho⟩
  · simp [Value.cells] at h1
    obtain ⟨rfl, rfl, rfl⟩ := h1
    simp at hm
    subst hm
    simp only [Prod.mk.injEq] at hxx
    obtain ⟨rfl, _⟩ := hxx
    have key : ∀ i, i < len → ∃ o : OpI, o.Ok W ∧ ∀ j (hj : j < 21), W.cell? ((a.add (i * 21)).add j) = o.cells[j]? := by
      intro i hi
      obtain ⟨cs', k1, k2⟩ := hx i (by omega)
      rw [cells_op] at k1
      obtain ⟨_, _, hc⟩ := World.cells?_some k1
      obtain ⟨o, ho, hok⟩ := open_op k2 fun x hx' => hw x (by
        simp only [DataW.weights, und_ops, List.mem_cons, List.mem_append]
        exact .inr (.inl (weights_all (d := D i) (List.mem_map.2 ⟨i, by simpa using hi, rfl⟩) x hx')))
      refine ⟨o, hok, fun j hj => ?_⟩
      rw [hc j hj, ho]
    by_cases h0 : len = 0
    · subst h0
      exact ⟨[], ⟨some a, m, rfl, by simp, hcm, fun j hj => absurd hj (by simp)⟩, fun o ho => by cases ho⟩
    obtain ⟨c0, _⟩ := key 0 (by omega)
    obtain ⟨F, hF⟩ : ∃ F : Nat → OpI, ∀ i, i < len → (F i).Ok W ∧ ∀ j (hj : j < 21), W.cell? ((a.add (i * 21)).add j) = (F i).cells[j]? := by
      refine ⟨fun i => if h : i < len then (key i h).choose else c0, fun i hi => ?_⟩
      simp only [dif_pos hi]
      exact (key i hi).choose_spec
    obtain ⟨g, off, rfl, hg⟩ : ∃ g off, a = ⟨g, off, none⟩ ∧ g < W.heap.size := by
      have z0 := (hF 0 (by omega)).2 0 (by omega)
      have e : (a.add (0 * 21)).add 0 = a := by simp [Addr.add]
      rw [e] at z0
      exact spot_none z0
    refine ⟨(List.range len).map F, ⟨some ⟨g, off, none⟩, m, by simp, by simpa using hlc, hcm, fun j hj => ?_⟩, fun o ho => ?_⟩
    · have hj' : j < len := by simpa using hj
      simp only [List.getElem_map, List.getElem_range]
      refine ⟨⟨rfl, rfl, (hF j hj').1.one, (hF j hj').1.klo, (hF j hj').1.khi⟩, g, off, rfl, hg, fun i v hv => ?_⟩
      have hi : i < 21 := (List.getElem?_eq_some_iff.1 hv).1
      have hh := (hF j hj').2 i hi
      rw [Addr.add_mid, Addr.add_mid] at hh
      rw [hh, hv]
    · obtain ⟨i, hi, rfl⟩ := List.mem_map.1 ho
      exact (hF i (by simpa using hi)).1
end
end Go.Proofs.YtcboenmmkaochabDoor.N

namespace Go.Proofs.YtcboenmmkaochabDoor.N
open Go.ChangeShapes Go.WideShapes Go.ChangeAt Go.RowKit
set_option maxHeartbeats 2000000
set_option maxRecDepth 100000

/-- The table of kinds. -/
def rowsK : List Value := [.bool false, .int .u8 0, .bool false, .int .u8 0, .bool false, .int .u8 0, .bool true, .int .u8 16, .bool true, .int .u8 0, .bool true, .int .u8 0, .bool false, .int .u8 0, .bool false, .int .u8 0, .bool false, .int .u8 0, .bool false, .int .u8 0, .bool false, .int .u8 0, .bool true, .int .u8 2, .bool true, .int .u8 3]

/-- It lies in the world. -/
def TabK (w : World) : Prop := (∀ j (h : j < 26), w.cell? ⟨0, j, none⟩ = some rowsK[j]) ∧ 0 < w.heap.size

theorem TabK.below {w w' : World} (h : TabK w) (hb : Below w.heap.size w w') : TabK w' :=
  ⟨fun j hj => (hb.cell (p := ⟨0, j, none⟩) h.2).trans (h.1 j hj), Nat.lt_of_lt_of_le h.2 hb.size⟩

/-- Is a message of that type a fault? -/
def kF (t : Nat) : Bool := t == 3 || t == 4 || t == 5 || t == 11 || t == 12
/-- How many codes it has. -/
def kC (t : Nat) : Nat := if t = 3 then 16 else if t = 11 then 2 else if t = 12 then 3 else 0

theorem kC_lt (t : Nat) : kC t < 256 := by unfold kC; split <;> try split <;> try split
                                           all_goals omega

theorem rows_at (t : Nat) (ht : t < 13) : rowsK[t * 2]? = some (.bool (kF t)) ∧ rowsK[t * 2 + 1]? = some (.int .u8 ((kC t : Nat) : Int)) := by
  have h : t = 0 ∨ t = 1 ∨ t = 2 ∨ t = 3 ∨ t = 4 ∨ t = 5 ∨ t = 6 ∨ t = 7 ∨ t = 8 ∨ t = 9 ∨ t = 10 ∨ t = 11 ∨ t = 12 := by omega
  rcases h with rfl | rfl | rfl | rfl | rfl | rfl | rfl | rfl | rfl | rfl | rfl | rfl | rfl <;> exact ⟨rfl, rfl⟩

theorem TabK.at {w : World} (h : TabK w) (t : Nat) (ht : t < 13) : w.cell? ⟨0, t * 2, none⟩ = some (.bool (kF t)) ∧ w.cell? ⟨0, t * 2 + 1, none⟩ = some (.int .u8 ((kC t : Nat) : Int)) := by
  obtain ⟨h1, h2⟩ := rows_at t ht
  refine ⟨(h.1 (t * 2) (by omega)).trans ?_, (h.1 (t * 2 + 1) (by omega)).trans ?_⟩
  · rw [← h1]; exact (List.getElem?_eq_getElem _).symm
  · rw [← h2]; exact (List.getElem?_eq_getElem _).symm

theorem size_kd : (Tryd.prog.info? 82).map (·.size) = some 2 := by kernel_rfl

theorem kindOf_any (t : Nat) (w : World) (ht : t < 256) (hk : TabK w) :
    Calls Tryd.prog 60 #[.int .u8 (t : Int)] w fun e w' => e = .returned (.agg #[.bool (kF t), .int .u8 ((kC t : Nat) : Int)]) ∧ Below w.heap.size w w' := by
  obtain ⟨w1, hw1⟩ : ∃ w1, w1 = w.alloc (.cells #[.bool false, .int .u8 0] 82) := ⟨_, rfl⟩
  have hb1 : Below w.heap.size w w1 := by rw [hw1]; exact (Below.refl _ _).alloc (Nat.le_refl _) _
  obtain ⟨zz, hzz⟩ : ∃ zz : Array Value, zz = #[.bool (kF t), .int .u8 ((kC t : Nat) : Int)] := ⟨_, rfl⟩
  have HZ := hid hzz
  have HTU : Hid (w1.there w.heap.size 0 zz.size) := by
    unfold Hid; rw [hzz]
    exact there_blk (C := #[.bool false, .int .u8 0]) (t := 82) (by rw [hw1]; exact heap_alloc_new w _) rfl
  have HONE : Hid (zz.all (·.oneCell') = true) := by unfold Hid; rw [hzz]; simp [Value.oneCell']
  have HINF : Hid ((Tryd.prog.info? 82).map (·.size) = some zz.size) := by unfold Hid; rw [hzz]; exact size_kd
  have HLV := hid (load_cell HTU.out Tryd.underlying82 HINF.out)
  have HBF := hid (below_setCells (Nat.le_refl _) zz.toList 0 w1 hb1)
  have HW1 := hid hw1
  have hk1 := hk.below hb1
  rw [← hzz]
  by_cases h13 : t < 13
  · obtain ⟨c0, c1⟩ := hk1.at t h13
    have HLD : Hid ((Instr.loadAt 82 (.pointer (some ⟨0, t * 2, none⟩))).run Tryd.prog w1 = .ok (.agg zz) w1) := by
      refine run_loadAt_mid w1 0 (t * 2) 82 zz.toList (.struct _) (fun j v hv => ?_) Tryd.underlying82 rfl (by rw [Array.length_toList]; exact HINF.out)
      rw [hzz] at hv
      match j, hv with
      | 0, hv => simp at hv; rw [Nat.add_zero, c0, hv]
      | 1, hv => simp at hv; rw [c1, hv]
    have b1 : (t : Int) < 13 := by omega
    have b2 : ¬ (13 : Int) ≤ (t : Int) := by omega
    clear hw1 hb1 hzz hk hk1 c0 c1
    go_enter Tryd.func60, Tryd.ntmps60
    go_upto_region 1 with fail
    rw [← HW1.out]
    go_wp2_with (first
      | (refine wpList_ld 82 ⟨0, t * 2, none⟩ _ rfl rfl HLD.out rfl ?_)
      | (refine wpList_store_mid rfl 82 (.tmp 2) (.tmp 8) rfl w.heap.size 0 zz rfl rfl HTU.out HINF.out HONE.out ?_)
      | fail)
    generalize w1.setCells w.heap.size 0 zz.toList = wf at HLV HBF ⊢
    refine bodyPost_ret (v := .agg zz) (by simp [results, Tryd.results60, asAddr, HLV.out]) rfl ?_
    exact ⟨rfl, HBF.out⟩
  · have HZ2 : Hid (zz = #[.bool false, .int .u8 0]) := by
      unfold Hid; rw [hzz]
      have h1 : kF t = false := by unfold kF; simp; omega
      have h2 : kC t = 0 := by unfold kC; rw [if_neg (by omega), if_neg (by omega), if_neg (by omega)]
      rw [h1, h2]; rfl
    have b2 : (13 : Int) ≤ (t : Int) := by omega
    clear hw1 hb1 hzz hk hk1
    go_enter Tryd.func60, Tryd.ntmps60
    go_upto_region 1 with fail
    rw [← HW1.out]
    go_wp2_with (first
      | (refine wpList_store_mid rfl 82 (.tmp 2) (.tmp 5) rfl w.heap.size 0 zz rfl (by rw [HZ2.out]; rfl) HTU.out HINF.out HONE.out ?_)
      | fail)
    generalize w1.setCells w.heap.size 0 zz.toList = wf at HLV HBF ⊢
    refine bodyPost_ret (v := .agg zz) (by simp [results, Tryd.results60, asAddr, Act.put, HLV.out]) rfl ?_
    exact ⟨rfl, HBF.out⟩

theorem isFault_any (t : Nat) (w : World) (ht : t < 256) (hk : TabK w) :
    Calls Tryd.prog 48 #[.int .u8 (t : Int)] w fun e w' => e = .returned (.bool (kF t)) ∧ Below w.heap.size w w' := by
  have HK := hid (kindOf_any t w ht hk)
  have hfl : ∀ u : World, (Instr.field 82 (.agg #[.bool (kF t), .int .u8 ((kC t : Nat) : Int)]) 0).run Tryd.prog u = .ok (.bool (kF t)) u := fun u => by kernel_rfl
  generalize kF t = b at *
  generalize kC t = n at *
  clear hk
  go_enter Tryd.func48, Tryd.ntmps48
  go_wp2_with fail
  refine HK.out.mono ?_
  rintro _ w2 ⟨rfl, hb⟩
  go_wp2_with fail
  go_ret
  exact ⟨rfl, hb⟩

/-- The greatest argument. -/
def mxA (t c : Nat) : Int := if t = 3 ∧ c = 4 then 65535 else if t = 12 ∧ c = 0 then 255 else 0

theorem maxArg_any (t c : Nat) (w : World) :
    Calls Tryd.prog 61 #[.int .u8 (t : Int), .int .u8 (c : Int)] w fun e w' => e = .returned (.int .i64 (mxA t c)) ∧ w' = w := by
  by_cases h1 : t = 3 ∧ c = 4
  · obtain ⟨rfl, rfl⟩ := h1
    have HM : Hid (mxA 3 4 = 65535) := rfl
    rw [HM.out]
    go_enter Tryd.func61, Tryd.ntmps61
    go_wp2
    go_ret
    exact ⟨rfl, rfl⟩
  · by_cases h2 : t = 12 ∧ c = 0
    · obtain ⟨rfl, rfl⟩ := h2
      have HM : Hid (mxA 12 0 = 255) := rfl
      rw [HM.out]
      go_enter Tryd.func61, Tryd.ntmps61
      go_wp2
      go_ret
      exact ⟨rfl, rfl⟩
    · have HM : Hid (mxA t c = 0) := by unfold Hid mxA; rw [if_neg h1, if_neg h2]
      rw [HM.out]
      by_cases e1 : t = 3
      · subst e1
        have q4 : ((c : Int) == 4) = false := by rw [beq_eq_false_iff_ne]; omega
        clear h1 h2
        go_enter Tryd.func61, Tryd.ntmps61
        go_wp2
        go_ret
        exact ⟨rfl, rfl⟩
      · by_cases e2 : t = 12
        · subst e2
          have q4 : ((c : Int) == 0) = false := by rw [beq_eq_false_iff_ne]; omega
          clear h1 h2 e1
          go_enter Tryd.func61, Tryd.ntmps61
          go_wp2
          go_ret
          exact ⟨rfl, rfl⟩
        · have q3 : ((t : Int) == 3) = false := by rw [beq_eq_false_iff_ne]; omega
          have q12 : ((t : Int) == 12) = false := by rw [beq_eq_false_iff_ne]; omega
          clear h1 h2 e1 e2
          go_enter Tryd.func61, Tryd.ntmps61
          go_wp2
          go_ret
          exact ⟨rfl, rfl⟩

/-- May such a fault be told? -/
def mayT (t c : Nat) (a : Int) : Bool := decide (c < kC t) && (decide (0 ≤ a) && decide (a ≤ mxA t c))

theorem mayTell_any (t c : Nat) (a : Int) (w : World) (ht : t < 256) (hk : TabK w) :
    Calls Tryd.prog 39 #[.int .u8 (t : Int), .int .u8 (c : Int), .int .i64 a] w fun e w' => e = .returned (.bool (mayT t c a)) ∧ Below w.heap.size w w' := by
  have HK := hid (kindOf_any t w ht hk)
  have hfl : ∀ u : World, (Instr.field 82 (.agg #[.bool (kF t), .int .u8 ((kC t : Nat) : Int)]) 1).run Tryd.prog u = .ok (.int .u8 ((kC t : Nat) : Int)) u := fun u => by kernel_rfl
  have HMX : Hid (∀ u, Calls Tryd.prog 61 #[.int .u8 (t : Int), .int .u8 (c : Int)] u fun e w' => e = .returned (.int .i64 (mxA t c)) ∧ w' = u) := fun u => maxArg_any t c u
  have HR : Hid (mayT t c a = (decide ((c : Int) < ((kC t : Nat) : Int)) && (decide (0 ≤ a) && decide (a ≤ mxA t c)))) := by
    unfold Hid mayT
    congr 1
    simp
  generalize mayT t c a = r at *
  generalize mxA t c = mx at *
  generalize kF t = b at *
  generalize kC t = n at *
  clear hk
  by_cases h1 : (c : Int) < (n : Int)
  · by_cases h2 : 0 ≤ a
    · go_enter Tryd.func39, Tryd.ntmps39
      go_wp2_with fail
      refine HK.out.mono ?_
      rintro _ w2 ⟨rfl, hb⟩
      go_wp2_with fail
      refine (HMX.out _).mono ?_
      rintro _ _ ⟨rfl, rfl⟩
      go_wp2_with fail
      go_ret
      exact ⟨ret_bool (by rw [HR.out]; simp [h1, h2]), hb⟩
    · go_enter Tryd.func39, Tryd.ntmps39
      go_wp2_with fail
      refine HK.out.mono ?_
      rintro _ w2 ⟨rfl, hb⟩
      go_wp2_with fail
      go_ret
      exact ⟨ret_bool (by rw [HR.out]; simp; omega), hb⟩
  · go_enter Tryd.func39, Tryd.ntmps39
    go_wp2_with fail
    refine HK.out.mono ?_
    rintro _ w2 ⟨rfl, hb⟩
    go_wp2_with fail
    go_ret
    exact ⟨ret_bool (by rw [HR.out]; simp; omega), hb⟩

/-- Where the argument lies. -/
def rstN (t a : Nat) : Nat := if t = 12 then a * 16777216 else a

theorem restOf_any (t c a : Nat) (w : World) (hm : (a : Int) ≤ mxA t c) :
    Calls Tryd.prog 43 #[.int .u8 (t : Int), .int .i64 (a : Int)] w fun e w' => e = .returned (.int .u32 ((rstN t a : Nat) : Int)) ∧ w' = w := by
  by_cases h : t = 12
  · subst h
    have ha : a ≤ 255 := by
      unfold mxA at hm
      split at hm
      · omega
      · split at hm <;> omega
    have HR : Hid (rstN 12 a = a * 16777216) := rfl
    generalize rstN 12 a = r at *
    clear hm
    go_enter Tryd.func43, Tryd.ntmps43
    go_wp2
    go_ret
    exact ⟨ret_int (by rw [HR.out]; omega), rfl⟩
  · have ha : a ≤ 65535 := by
      unfold mxA at hm
      split at hm
      · omega
      · split at hm <;> omega
    have HR : Hid (rstN t a = a) := by unfold Hid rstN; rw [if_neg h]
    have q12 : ((t : Int) == 12) = false := by rw [beq_eq_false_iff_ne]; omega
    rw [HR.out]
    clear hm h
    go_enter Tryd.func43, Tryd.ntmps43
    go_wp2
    go_ret
    exact ⟨rfl, rfl⟩
end Go.Proofs.YtcboenmmkaochabDoor.N

namespace Go.Proofs.YtcboenmmkaochabDoor.Ad
open Go.ChangeShapes Go.WideShapes Go.ChangeAt Go.RowKit
set_option maxHeartbeats 400000

theorem ret_int {k : IntKind} {a b : Int} (h : a = b) : Ending.returned (.int k a) = .returned (.int k b) := by rw [h]
theorem ret_bool {a b : Bool} (h : a = b) : Ending.returned (.bool a) = .returned (.bool b) := by rw [h]
theorem ret_int2 {k l : IntKind} {a b c d : Int} (h : a = b) (g : c = d) : Ending.returned (.tuple #[.int k a, .int l c]) = .returned (.tuple #[.int k b, .int l d]) := by rw [h, g]
theorem hid {p : Prop} (h : p) : Hid p := h
theorem below_drewN {B : Nat} {a w : World} (h : Below B a w) (n : Nat) : Below B a (w.drewN n) := ⟨h.os, h.tape, h.output, h.size, h.block⟩

theorem two_blocks {w w4 : World} {o1 o2 : Obj} {q : Nat} (hb : Below (((w.alloc o1).drewN q).alloc o2).heap.size (((w.alloc o1).drewN q).alloc o2) w4) :
    w4.heap[w.heap.size]? = some o1 ∧ w4.heap[w.heap.size + 1]? = some o2 ∧ Below w.heap.size w w4 := by
  have e1 : ((w.alloc o1).drewN q).heap.size = w.heap.size + 1 := by show (w.alloc o1).heap.size = _; simp
  have hsz : (((w.alloc o1).drewN q).alloc o2).heap.size = w.heap.size + 2 := by
    rw [show (((w.alloc o1).drewN q).alloc o2).heap.size = ((w.alloc o1).drewN q).heap.size + 1 from by simp, e1]
  refine ⟨?_, ?_, ?_⟩
  · rw [hb.block _ (by omega), Below.heap_alloc _ _ _ (by omega)]
    exact heap_alloc_new w o1
  · rw [hb.block _ (by omega), ← e1]
    exact heap_alloc_new _ o2
  · exact ((below_drewN ((Below.refl _ w).alloc (Nat.le_refl _) o1) q).alloc (by omega) o2).trans (hb.mono (by omega))

theorem row_two {w : World} {b : Nat} {x y : Value} {T : TypeId} (h : w.heap[b]? = some (.cells #[x, y] T (0, 0))) : w.cell? ⟨b, 0, none⟩ = some x ∧ w.cell? ⟨b, 1, none⟩ = some y ∧ w.frozen? ⟨b, 0, none⟩ = false ∧ w.frozen? ⟨b, 1, none⟩ = false ∧ b < w.heap.size := by
  refine ⟨by rw [cell_of_row w b 0 _ _ _ h]; rfl, by rw [cell_of_row w b 1 _ _ _ h]; rfl, by simp [World.frozen?, h], by simp [World.frozen?, h], (Array.getElem?_eq_some_iff.1 h).1⟩

theorem back_two {w : World} {b : Nat} {x y : Value} {T : TypeId} (h : w.heap[b]? = some (.cells #[x, y] T (0, 0))) (X Y : Value) : (w.setCell ⟨b, 0, none⟩ X).cell? ⟨b, 0, none⟩ = some X ∧ ((w.setCell ⟨b, 0, none⟩ X).setCell ⟨b, 1, none⟩ Y).cell? ⟨b, 1, none⟩ = some Y := by
  have h1 : (w.setCell ⟨b, 0, none⟩ X).heap[b]? = some (.cells #[X, y] T (0, 0)) := by simp [World.setCell, Array.getElem?_modify, h]
  have h2 : ((w.setCell ⟨b, 0, none⟩ X).setCell ⟨b, 1, none⟩ Y).heap[b]? = some (.cells #[X, Y] T (0, 0)) := by
    generalize (w.setCell ⟨b, 0, none⟩ X) = W at h1 ⊢
    simp [World.setCell, Array.getElem?_modify, h1]
  exact ⟨(row_two h1).1, (row_two h2).2.1⟩

/-- A world behind calls that made memory and wrote none of the elder. -/
structure Beh (w : World) where
  wd : World
  ok : Below w.heap.size w wd

instance (w : World) : Nonempty (Beh w) := ⟨⟨w, Below.refl _ _⟩⟩

theorem wp_region_beh {P : Program} {id : Nat} {Q : Exit → Act → World → Prop} {a : Act} {w : World} {l : List Oper} (hm : P.follows .mixedOrders = true) (hB : Region.lexB .any l.toArray = true)
    (h : wpQuiet P l.toArray (fun w' => ∃ u : Beh w, w' = u.wd) (fun a' => ∀ w', (∃ u : Beh w, w' = u.wd) → Q .normal a' w') l a) : (Code.region id l.toArray true).wp P Q a w :=
  wp_region_quiet (C := fun w' => ∃ u : Beh w, w' = u.wd) hm hB ⟨⟨_, below_drewN (Below.refl _ _) 1⟩, rfl⟩ (by simpa using h)

theorem Calls.beh {P : Program} {f : FuncId} {args : Array Value} {w : World} {u : Beh w} {v : Value}
    (h : Calls P f args u.wd fun e w' => e = .returned v ∧ Below u.wd.heap.size u.wd w') : Calls P f args u.wd fun e w'' => e = .returned v ∧ ∃ u' : Beh w, w'' = u'.wd :=
  h.mono fun _ w' ⟨he, hb⟩ => ⟨he, ⟨w', u.ok.trans (hb.mono u.ok.size)⟩, rfl⟩

theorem Beh.two {w : World} {b : Nat} {x y : Value} {T : TypeId} (h : w.heap[b]? = some (.cells #[x, y] T (0, 0))) :
    (∀ u : Beh w, u.wd.cell? ⟨b, 0, none⟩ = some x) ∧ (∀ u : Beh w, u.wd.cell? ⟨b, 1, none⟩ = some y) := by
  have hlt : b < w.heap.size := (row_two h).2.2.2.2
  constructor <;> intro u
  · exact (row_two ((u.ok.block b hlt).trans h)).1
  · exact (row_two ((u.ok.block b hlt).trans h)).2.1

end Go.Proofs.YtcboenmmkaochabDoor.Ad

namespace Go.Proofs.YtcboenmmkaochabDoor.Ad.M

/-- The cover by halving, of the range from lo to hi, within the block of 2^K addresses at base. -/
def cut : Nat → Nat → Nat → Nat → List (Nat × Nat)
  | 0, base, lo, hi => if base < lo ∨ hi < base then [] else [(base, 0)]
  | K + 1, base, lo, hi =>
    if base + 2 ^ (K + 1) - 1 < lo ∨ hi < base then []
    else if lo ≤ base ∧ base + 2 ^ (K + 1) - 1 ≤ hi then [(base, K + 1)]
    else cut K base lo hi ++ cut K (base + 2 ^ K) lo hi

def cv (lo hi : Nat) : List (Nat × Nat) := cut 32 0 lo hi

/-- k is the greatest exponent of a block that begins at x and ends at hi at the latest. -/
def Wid (x hi k : Nat) : Prop := k ≤ 32 ∧ x % 2 ^ k = 0 ∧ x + 2 ^ k - 1 ≤ hi ∧ (k < 32 → ¬ (x % 2 ^ (k + 1) = 0 ∧ x + 2 ^ (k + 1) - 1 ≤ hi))

theorem p2 (K : Nat) : 2 ^ (K + 1) = 2 * 2 ^ K ∧ 0 < 2 ^ K := ⟨by rw [Nat.pow_succ]; omega, Nat.two_pow_pos K⟩

theorem p2_le {a b : Nat} (h : a ≤ b) : 2 ^ a ≤ 2 ^ b := Nat.pow_le_pow_right (by omega) h

theorem dvd_of_mod {a d : Nat} (h : a % d = 0) : d ∣ a := Nat.dvd_of_mod_eq_zero h

theorem mod_down {a j k : Nat} (h : a % 2 ^ k = 0) (hj : j ≤ k) : a % 2 ^ j = 0 :=
  Nat.mod_eq_zero_of_dvd (Nat.dvd_trans (Nat.pow_dvd_pow 2 hj) (dvd_of_mod h))

theorem mod_add {a b k : Nat} (h : a % 2 ^ k = 0) (g : b % 2 ^ k = 0) : (a + b) % 2 ^ k = 0 :=
  Nat.mod_eq_zero_of_dvd (Nat.dvd_add (dvd_of_mod h) (dvd_of_mod g))

theorem mod_pow {j k : Nat} (hj : j ≤ k) : 2 ^ k % 2 ^ j = 0 := Nat.mod_eq_zero_of_dvd (Nat.pow_dvd_pow 2 hj)

/-- Two multiples of d: the smaller one and d is at most the greater. -/
theorem step_le {a b d : Nat} (ha : a % d = 0) (hb : b % d = 0) (h : a < b) : a + d ≤ b := by
  obtain ⟨c, rfl⟩ := dvd_of_mod ha
  obtain ⟨e, rfl⟩ := dvd_of_mod hb
  have : c < e := Nat.lt_of_mul_lt_mul_left h
  calc d * c + d = d * (c + 1) := by rw [Nat.mul_add, Nat.mul_one]
    _ ≤ d * e := Nat.mul_le_mul_left _ this

theorem cut_out {K base lo hi : Nat} (h : base + 2 ^ K - 1 < lo ∨ hi < base) : cut K base lo hi = [] := by
  cases K with
  | zero => simp only [cut]; rw [if_pos (by simpa using h)]
  | succ K => simp only [cut]; rw [if_pos h]

theorem cut_full {K base lo hi : Nat} (h : lo ≤ base) (g : base + 2 ^ K - 1 ≤ hi) : cut K base lo hi = [(base, K)] := by
  have := Nat.two_pow_pos K
  cases K with
  | zero => simp only [cut]; rw [if_neg (by simp at g; omega)]
  | succ K => simp only [cut]; rw [if_neg (by omega), if_pos ⟨h, g⟩]

theorem cut_half {K base lo hi : Nat} (h : ¬ (base + 2 ^ (K + 1) - 1 < lo ∨ hi < base)) (g : ¬ (lo ≤ base ∧ base + 2 ^ (K + 1) - 1 ≤ hi)) :
    cut (K + 1) base lo hi = cut K base lo hi ++ cut K (base + 2 ^ K) lo hi := by
  simp only [cut]; rw [if_neg h, if_neg g]

theorem cut_gt : ∀ (K base lo hi : Nat), hi < lo → cut K base lo hi = [] := by
  intro K
  induction K with
  | zero => intro base lo hi h; simp only [cut]; rw [if_pos (by omega)]
  | succ K ih =>
    intro base lo hi h
    by_cases o : base + 2 ^ (K + 1) - 1 < lo ∨ hi < base
    · exact cut_out o
    · have := Nat.two_pow_pos (K + 1)
      rw [cut_half o (by omega), ih _ _ _ h, ih _ _ _ h]; rfl

theorem cut_lo : ∀ (K base lo hi : Nat), lo ≤ base → cut K base lo hi = cut K base base hi := by
  intro K
  induction K with
  | zero => intro base lo hi h; simp only [cut]; by_cases c : hi < base
            · rw [if_pos (.inr c), if_pos (.inr c)]
            · rw [if_neg (by omega), if_neg (by omega)]
  | succ K ih =>
    intro base lo hi h
    have hp := p2 K
    by_cases o : hi < base
    · rw [cut_out (.inr o), cut_out (.inr o)]
    · by_cases f : base + 2 ^ (K + 1) - 1 ≤ hi
      · rw [cut_full h f, cut_full (Nat.le_refl _) f]
      · rw [cut_half (by omega) (by omega), cut_half (by omega) (by omega), ih base lo hi h, ih (base + 2 ^ K) lo hi (by omega), ih (base + 2 ^ K) base hi (by omega)]

/-- The step from the left. -/
theorem cut_step : ∀ (K base x hi k : Nat), base % 2 ^ K = 0 → base ≤ x → x < base + 2 ^ K → k ≤ K → K ≤ 32 → Wid x hi k → cut K base x hi = (x, k) :: cut K base (x + 2 ^ k) hi := by
  intro K
  induction K with
  | zero =>
    intro base x hi k _ h1 h2 h3 _ hw
    have hk : k = 0 := by omega
    have hx : x = base := by simp at h2; omega
    subst hk; subst hx
    have := hw.2.2.1
    simp only [cut]
    rw [if_neg (by simp at this; omega), if_pos (by simp)]
  | succ K ih =>
    intro base x hi k hb h1 h2 h3 h32 hw
    have hp := p2 K
    obtain ⟨_, hm, hend, hmax⟩ := hw
    have hxhi : x ≤ hi := by have := Nat.two_pow_pos k; omega
    by_cases f : x ≤ base ∧ base + 2 ^ (K + 1) - 1 ≤ hi
    · have hxb : x = base := by omega
      subst hxb
      have hk : k = K + 1 := by
        by_cases e : k = K + 1
        · exact e
        · exfalso
          have hle : 2 ^ (k + 1) ≤ 2 ^ (K + 1) := p2_le (by omega)
          exact hmax (by omega) ⟨mod_down hb (by omega), by omega⟩
      subst hk
      rw [cut_full f.1 f.2, cut_out (.inl (by omega))]
    · have hkK : k ≤ K := by
        by_cases e : k = K + 1
        · exfalso
          subst e
          have hxb : x = base := by
            rcases Nat.lt_or_ge base x with h | h
            · have := step_le hb hm h; omega
            · omega
          subst hxb
          exact f ⟨Nat.le_refl _, hend⟩
        · omega
      have hbK : base % 2 ^ K = 0 := mod_down hb (by omega)
      have hmid : (base + 2 ^ K) % 2 ^ K = 0 := mod_add hbK (mod_pow (Nat.le_refl _))
      have hmidk : (base + 2 ^ K) % 2 ^ k = 0 := mod_down hmid hkK
      have hpk := Nat.two_pow_pos k
      rw [cut_half (by omega) f]
      rcases Nat.lt_or_ge x (base + 2 ^ K) with h | h
      · have hle := step_le hm hmidk h
        rw [ih base x hi k hbK h1 h hkK (by omega) ⟨by omega, hm, hend, hmax⟩]
        rw [cut_half (lo := x + 2 ^ k) (by omega) (by omega)]
        rw [cut_lo K (base + 2 ^ K) x hi (by omega), cut_lo K (base + 2 ^ K) (x + 2 ^ k) hi (by omega)]
        rfl
      · rw [cut_out (K := K) (base := base) (lo := x) (.inl (by omega)), List.nil_append]
        rw [ih (base + 2 ^ K) x hi k hmid h (by omega) hkK (by omega) ⟨by omega, hm, hend, hmax⟩]
        by_cases o : base + 2 ^ (K + 1) - 1 < x + 2 ^ k ∨ hi < base
        · rw [cut_out o, cut_out (K := K) (by omega)]
        · rw [cut_half (lo := x + 2 ^ k) o (by omega), cut_out (K := K) (base := base) (lo := x + 2 ^ k) (.inl (by omega)), List.nil_append]

theorem cv_step {x hi k : Nat} (hx : x < 4294967296) (hw : Wid x hi k) : cv x hi = (x, k) :: cv (x + 2 ^ k) hi :=
  cut_step 32 0 x hi k (by simp) (by omega) (by simpa using hx) hw.1 (by omega) hw

theorem cv_gt {lo hi : Nat} (h : hi < lo) : cv lo hi = [] := cut_gt _ _ _ _ h

theorem wid_from : ∀ (f x hi k : Nat), k + f = 32 → x % 2 ^ k = 0 → x + 2 ^ k - 1 ≤ hi → ∃ j, Wid x hi j := by
  intro f
  induction f with
  | zero => intro x hi k hk h1 h2; exact ⟨k, by omega, h1, h2, by omega⟩
  | succ f ih =>
    intro x hi k hk h1 h2
    by_cases c : x % 2 ^ (k + 1) = 0 ∧ x + 2 ^ (k + 1) - 1 ≤ hi
    · exact ih x hi (k + 1) (by omega) c.1 c.2
    · exact ⟨k, by omega, h1, h2, fun _ => c⟩

theorem wid_some {x hi : Nat} (h : x ≤ hi) : ∃ k, Wid x hi k := wid_from 32 x hi 0 rfl (by simp; omega) (by simpa using h)

/-- What the blocks of a cover are. -/
theorem cut_mem : ∀ (K base lo hi x k : Nat), base % 2 ^ K = 0 → (x, k) ∈ cut K base lo hi →
    k ≤ K ∧ x % 2 ^ k = 0 ∧ lo ≤ x ∧ x + 2 ^ k - 1 ≤ hi ∧ base ≤ x ∧ x + 2 ^ k ≤ base + 2 ^ K ∧
      (k < K → ¬ (lo ≤ x / 2 ^ (k + 1) * 2 ^ (k + 1) ∧ x / 2 ^ (k + 1) * 2 ^ (k + 1) + 2 ^ (k + 1) - 1 ≤ hi)) := by
  intro K
  induction K with
  | zero =>
    intro base lo hi x k _ h
    simp only [cut] at h
    split at h
    · cases h
    · simp at h; obtain ⟨rfl, rfl⟩ := h
      simp; omega
  | succ K ih =>
    intro base lo hi x k hb h
    have hp := p2 K
    by_cases o : base + 2 ^ (K + 1) - 1 < lo ∨ hi < base
    · rw [cut_out o] at h; cases h
    · by_cases f : lo ≤ base ∧ base + 2 ^ (K + 1) - 1 ≤ hi
      · rw [cut_full f.1 f.2] at h
        simp at h; obtain ⟨rfl, rfl⟩ := h
        exact ⟨Nat.le_refl _, hb, f.1, f.2, Nat.le_refl _, Nat.le_refl _, fun h => absurd h (Nat.lt_irrefl _)⟩
      · rw [cut_half o f, List.mem_append] at h
        have hbK : base % 2 ^ K = 0 := mod_down hb (by omega)
        have hmid : (base + 2 ^ K) % 2 ^ K = 0 := mod_add hbK (mod_pow (Nat.le_refl _))
        obtain ⟨c, hc⟩ := dvd_of_mod hb
        rcases h with h | h
        · obtain ⟨a1, a2, a3, a4, a5, a6, a7⟩ := ih base lo hi x k hbK h
          refine ⟨by omega, a2, a3, a4, a5, by omega, fun _ => ?_⟩
          by_cases e : k < K
          · exact a7 e
          · have hk : k = K := by omega
            subst hk
            have hx : x = base := by omega
            subst hx
            have : x / 2 ^ (k + 1) * 2 ^ (k + 1) = x := Nat.div_mul_cancel (dvd_of_mod hb)
            rw [this]; exact f
        · obtain ⟨a1, a2, a3, a4, a5, a6, a7⟩ := ih (base + 2 ^ K) lo hi x k hmid h
          refine ⟨by omega, a2, a3, a4, by omega, by omega, fun _ => ?_⟩
          by_cases e : k < K
          · exact a7 e
          · have hk : k = K := by omega
            subst hk
            have hx : x = base + 2 ^ k := by omega
            subst hx
            have hd : (base + 2 ^ k) / 2 ^ (k + 1) * 2 ^ (k + 1) = base := by
              rw [hc, Nat.mul_add_div (by omega), Nat.div_eq_of_lt (by omega), Nat.add_zero, Nat.mul_comm]
            rw [hd]; exact f

theorem cut_left : ∀ (K base lo hi : Nat), lo ≤ base → hi < base + 2 ^ K - 1 → (cut K base lo hi).length ≤ K := by
  intro K
  induction K with
  | zero => intro base lo hi h g; rw [cut_out (.inr (by simp at g; omega))]; simp
  | succ K ih =>
    intro base lo hi h g
    have hp := p2 K
    by_cases o : hi < base
    · rw [cut_out (.inr o)]; simp
    · rw [cut_half (by omega) (by omega), List.length_append]
      by_cases c : hi < base + 2 ^ K
      · rw [cut_out (K := K) (base := base + 2 ^ K) (.inr c)]
        by_cases d : base + 2 ^ K - 1 ≤ hi
        · rw [cut_full h d]; simp
        · have := ih base lo hi h (by omega); simp; omega
      · rw [cut_full h (by omega)]
        have := ih (base + 2 ^ K) lo hi (by omega) (by omega)
        simp; omega

theorem cut_right : ∀ (K base lo hi : Nat), base < lo → base + 2 ^ K - 1 ≤ hi → (cut K base lo hi).length ≤ K := by
  intro K
  induction K with
  | zero => intro base lo hi h g; rw [cut_out (.inl (by simp; omega))]; simp
  | succ K ih =>
    intro base lo hi h g
    have hp := p2 K
    by_cases o : base + 2 ^ (K + 1) - 1 < lo
    · rw [cut_out (.inl o)]; simp
    · rw [cut_half (by omega) (by omega), List.length_append]
      by_cases c : base + 2 ^ K - 1 < lo
      · rw [cut_out (K := K) (base := base) (.inl c)]
        by_cases d : lo ≤ base + 2 ^ K
        · rw [cut_full d (by omega)]; simp
        · have := ih (base + 2 ^ K) lo hi (by omega) (by omega); simp; omega
      · rw [cut_full (K := K) (base := base + 2 ^ K) (by omega) (by omega)]
        have := ih base lo hi h (by omega)
        simp; omega

theorem cut_len : ∀ (K base lo hi : Nat), (cut K base lo hi).length ≤ 2 * K - 2 ∨ (cut K base lo hi).length ≤ 1 := by
  intro K
  induction K with
  | zero => intro base lo hi; right; simp only [cut]; split <;> simp
  | succ K ih =>
    intro base lo hi
    have hp := p2 K
    by_cases o : base + 2 ^ (K + 1) - 1 < lo ∨ hi < base
    · rw [cut_out o]; right; simp
    · by_cases f : lo ≤ base ∧ base + 2 ^ (K + 1) - 1 ≤ hi
      · rw [cut_full f.1 f.2]; right; simp
      · rw [cut_half o f, List.length_append]
        by_cases c : hi < base + 2 ^ K
        · rw [cut_out (K := K) (base := base + 2 ^ K) (.inr c)]
          have := ih base lo hi
          simp only [List.length_nil]; omega
        · by_cases d : base + 2 ^ K - 1 < lo
          · rw [cut_out (K := K) (base := base) (.inl d)]
            have := ih (base + 2 ^ K) lo hi
            simp only [List.length_nil]; omega
          · by_cases l1 : lo ≤ base
            · rw [cut_full (K := K) (base := base) l1 (by omega)]
              have := cut_left K (base + 2 ^ K) lo hi (by omega) (by omega)
              simp only [List.length_cons, List.length_nil]; omega
            · have r1 := cut_right K base lo hi (by omega) (by omega)
              by_cases l2 : base + 2 ^ K + 2 ^ K - 1 ≤ hi
              · rw [cut_full (K := K) (base := base + 2 ^ K) (by omega) l2]
                simp only [List.length_cons, List.length_nil]; omega
              · have := cut_left K (base + 2 ^ K) lo hi (by omega) (by omega)
                omega

theorem cv_len (lo hi : Nat) : (cv lo hi).length ≤ 62 := by
  have := cut_len 32 0 lo hi
  unfold cv; omega

theorem cv_mem {lo hi x k : Nat} (h : (x, k) ∈ cv lo hi) : k ≤ 32 ∧ x % 2 ^ k = 0 ∧ lo ≤ x ∧ x + 2 ^ k - 1 ≤ hi ∧ x + 2 ^ k ≤ 4294967296 ∧
    (k < 32 → ¬ (lo ≤ x / 2 ^ (k + 1) * 2 ^ (k + 1) ∧ x / 2 ^ (k + 1) * 2 ^ (k + 1) + 2 ^ (k + 1) - 1 ≤ hi)) := by
  obtain ⟨a1, a2, a3, a4, _, a6, a7⟩ := cut_mem 32 0 lo hi x k (by simp) h
  exact ⟨a1, a2, a3, a4, by simpa using a6, a7⟩

/-- Going through a cover from the left: the block that stands at j, and the rest. -/
theorem cv_round {lo hi x j : Nat} {pre : List (Nat × Nat)} (hh : hi < 4294967296) (h1 : pre.length = j) (h2 : pre ++ cv x hi = cv lo hi) (hj : j < (cv lo hi).length) :
    ∃ k, (cv lo hi)[j]? = some (x, k) ∧ k ≤ 32 ∧ x % 2 ^ k = 0 ∧ x + 2 ^ k - 1 ≤ hi ∧ x + 2 ^ k ≤ 4294967296 ∧
      (k < 32 → ¬ (lo ≤ x / 2 ^ (k + 1) * 2 ^ (k + 1) ∧ x / 2 ^ (k + 1) * 2 ^ (k + 1) + 2 ^ (k + 1) - 1 ≤ hi)) ∧
      (pre ++ [(x, k)]).length = j + 1 ∧ (pre ++ [(x, k)]) ++ cv (x + 2 ^ k) hi = cv lo hi ∧ x + 2 ^ k ≤ hi + 1 := by
  have hx : x ≤ hi := by
    rcases Nat.lt_or_ge hi x with h | h
    · rw [cv_gt h, List.append_nil] at h2
      rw [← h2] at hj; omega
    · exact h
  obtain ⟨k, hk⟩ := wid_some hx
  have hs := cv_step (by omega) hk
  rw [hs] at h2
  have hm : (x, k) ∈ cv lo hi := by rw [← h2]; simp
  obtain ⟨a1, a2, a3, a4, a5, a6⟩ := cv_mem hm
  refine ⟨k, ?_, a1, a2, a4, a5, a6, by simp [h1], by simpa using h2, ?_⟩
  · rw [← h2, ← h1]; simp
  · have := Nat.two_pow_pos k; omega

/-- The k lowest bits. -/
def mask (k : Nat) : Nat := 2 ^ k - 1

theorem mask_lt {k : Nat} (h : k ≤ 32) : mask k < 4294967296 := by
  have : 2 ^ k ≤ 2 ^ 32 := p2_le h
  have := Nat.two_pow_pos k
  unfold mask; omega

theorem and_mask (x k : Nat) : x &&& mask k = x % 2 ^ k := Nat.and_two_pow_sub_one_eq_mod x k

theorem or_mask (x k : Nat) (h : x % 2 ^ k = 0) : x ||| mask k = x + 2 ^ k - 1 := by
  have hp := Nat.two_pow_pos k
  obtain ⟨c, rfl⟩ := dvd_of_mod h
  rw [← Nat.two_pow_add_eq_or_of_lt (by unfold mask; omega)]
  unfold mask; omega

end Go.Proofs.YtcboenmmkaochabDoor.Ad.M

namespace Go.Proofs.YtcboenmmkaochabDoor.Ad
open Go.ChangeShapes Go.WideShapes Go.ChangeAt Go.RowKit
set_option maxHeartbeats 400000

theorem pow_pred (n : Nat) (h : n ≤ 32) : 4294967295 / 2 ^ n = 2 ^ (32 - n) - 1 := by
  have : ∀ m, m < 33 → 4294967295 / 2 ^ m = 2 ^ (32 - m) - 1 := by decide +kernel
  exact this n (by omega)

theorem bits_any (n : Int) (k : Nat) (w : World) (h0 : n = 32 - (k : Int)) (h1 : k ≤ 32) :
    Calls Tryd.prog 93 #[.int .i64 n] w fun e w' => e = .returned (.int .u32 ((M.mask k : Nat) : Int)) ∧ w' = w := by
  have hp := pow_pred n.toNat (by omega)
  have HP : Hid (4294967295 / 2 ^ n.toNat = M.mask k) := by
    unfold M.mask; rw [show k = 32 - n.toNat from by omega]; exact hp
  have b0 : 0 ≤ n := by omega
  have b1 : n ≤ 32 := by omega
  clear hp h0 h1
  go_enter Tryd.func93, Tryd.ntmps93
  go_wp2
  go_ret
  refine ⟨ret_int ?_, rfl⟩
  rw [← HP.out]; simp

theorem and_u32 (x k : Nat) (hx : x < 4294967296) (hk : k ≤ 32) : bits .and .u32 (x : Int) ((M.mask k : Nat) : Int) = ((x % 2 ^ k : Nat) : Int) := by
  rw [u32_and_nat x (M.mask k) hx (M.mask_lt hk), M.and_mask]

theorem or_u32 (x k : Nat) (hx : x < 4294967296) (hk : k ≤ 32) (h : x % 2 ^ k = 0) : bits .or .u32 (x : Int) ((M.mask k : Nat) : Int) = ((x + 2 ^ k - 1 : Nat) : Int) := by
  rw [u32_or_nat x (M.mask k) hx (M.mask_lt hk), M.or_mask x k h]

def pw (k : Nat) : Nat := 2 ^ k
theorem pw_succ (k : Nat) : pw (k + 1) = 2 * pw k := (M.p2 k).1
theorem pw_pos (k : Nat) : 0 < pw k := Nat.two_pow_pos k
theorem pw_le {k : Nat} (h : k ≤ 32) : pw k ≤ 4294967296 := M.p2_le (a := k) (b := 32) h

/-- Why a prefix is not valid; 0: it is. -/
def err (p : Nat × Int) : Int := if p.2 < 0 ∨ 32 < p.2 then 11 else if p.1 % 2 ^ (32 - p.2.toNat) = 0 then 0 else 12

/-- The prefixes that are valid: the block of 2^k addresses at x. -/
theorem err_ok {p : Nat × Int} (h : err p = 0) : ∃ k : Nat, k ≤ 32 ∧ p.2 = 32 - (k : Int) ∧ p.1 % 2 ^ k = 0 := by
  unfold err at h
  split at h
  · simp at h
  · rename_i h1
    split at h
    · exact ⟨32 - p.2.toNat, by omega, by omega, by assumption⟩
    · simp at h

theorem check_any (x : Nat) (n : Int) (w : World) (hx : x < 4294967296) :
    Calls Tryd.prog 92 #[.agg #[.int .u32 x, .int .i64 n]] w fun e w' => e = .returned (.int .i64 (err (x, n))) ∧ Below w.heap.size w w' := by
  by_cases h1 : n < 0
  · have HE : Hid (err (x, n) = 11) := by unfold Hid err; rw [if_pos (.inl h1)]
    go_enter Tryd.func92, Tryd.ntmps92
    go_wp2
    go_ret
    exact ⟨ret_int HE.out.symm, (Below.refl _ _).alloc (Nat.le_refl _) _⟩
  · by_cases h2 : 32 < n
    · have HE : Hid (err (x, n) = 11) := by unfold Hid err; rw [if_pos (.inr h2)]
      go_enter Tryd.func92, Tryd.ntmps92
      go_wp2
      go_ret
      exact ⟨ret_int HE.out.symm, (Below.refl _ _).alloc (Nat.le_refl _) _⟩
    · obtain ⟨k, hk, hn⟩ : ∃ k : Nat, k ≤ 32 ∧ n = 32 - (k : Int) := ⟨32 - n.toNat, by omega, by omega⟩
      have hA := and_u32 x k hx hk
      have hkn : 32 - n.toNat = k := by omega
      by_cases h3 : x % 2 ^ k = 0
      · have HE : Hid (err (x, n) = 0) := by unfold Hid err; rw [if_neg (by simp; omega), hkn, if_pos h3]
        have hq : (bits .and .u32 (x : Int) ((M.mask k : Nat) : Int) != 0) = false := by rw [hA, h3]; rfl
        have HN : Hid (n = 32 - (k : Int)) := hn
        clear hA h3 hkn hn
        go_enter Tryd.func92, Tryd.ntmps92
        go_wp2
        go_quiet ((go_at_call 93; exact Calls.quiet_of_same (bits_any _ k _ HN.out hk)))
        go_wp2
        go_ret
        exact ⟨ret_int HE.out.symm, below_drewN ((Below.refl _ _).alloc (Nat.le_refl _) _) _⟩
      · have HE : Hid (err (x, n) = 12) := by unfold Hid err; rw [if_neg (by simp; omega), hkn, if_neg h3]
        have hq : (bits .and .u32 (x : Int) ((M.mask k : Nat) : Int) != 0) = true := by
          rw [hA, bne_iff_ne]; intro e; exact h3 (by exact_mod_cast e)
        have HN : Hid (n = 32 - (k : Int)) := hn
        clear hA h3 hkn hn
        go_enter Tryd.func92, Tryd.ntmps92
        go_wp2
        go_quiet ((go_at_call 93; exact Calls.quiet_of_same (bits_any _ k _ HN.out hk)))
        go_wp2
        go_ret
        exact ⟨ret_int HE.out.symm, below_drewN ((Below.refl _ _).alloc (Nat.le_refl _) _) _⟩

end Go.Proofs.YtcboenmmkaochabDoor.Ad

namespace Go.Proofs.YtcboenmmkaochabDoor.Ad
open Go.ChangeShapes Go.WideShapes Go.ChangeAt Go.RowKit
set_option maxHeartbeats 400000

theorem valid_any (x : Nat) (n : Int) (w : World) (hx : x < 4294967296) :
    Calls Tryd.prog 88 #[.agg #[.int .u32 x, .int .i64 n]] w fun e w' => e = .returned (.bool (err (x, n) == 0)) ∧ Below w.heap.size w w' := by
  go_enter Tryd.func88, Tryd.ntmps88
  go_wp2_with fail
  refine (check_any x n _ hx).mono ?_
  rintro e w1 ⟨rfl, hb1⟩
  obtain ⟨ee, hee⟩ : ∃ ee, ee = err (x, n) := ⟨_, rfl⟩
  rw [← hee]
  have HEE := hid hee
  clear hee
  have hb01 : Below w.heap.size w w1 := ((Below.refl _ _).alloc (Nat.le_refl _) _).trans (hb1.mono (by simp))
  go_wp2_with fail
  go_ret
  exact ⟨ret_bool (by rw [HEE.out]), hb01⟩

theorem lastOf_any (x k : Nat) (n : Int) (w : World) (hn : n = 32 - (k : Int)) (hx : x < 4294967296) (hk : k ≤ 32) (hm : x % 2 ^ k = 0) :
    Calls Tryd.prog 89 #[.agg #[.int .u32 x, .int .i64 n]] w fun e w' => e = .returned (.int .u32 ((x + pw k - 1 : Nat) : Int)) ∧ Below w.heap.size w w' := by
  subst hn
  have hO := or_u32 x k hx hk hm
  have HO : Hid (bits .or .u32 (x : Int) ((M.mask k : Nat) : Int) = ((x + pw k - 1 : Nat) : Int)) := hO
  clear hO
  go_enter Tryd.func89, Tryd.ntmps89
  go_wp2
  go_quiet ((go_at_call 93; exact Calls.quiet_of_same (bits_any _ k _ (by omega) hk)))
  go_wp2
  go_ret
  exact ⟨ret_int HO.out, below_drewN ((Below.refl _ _).alloc (Nat.le_refl _) _) _⟩

theorem top_of (x k : Nat) (hx : x < 4294967296) (hk : k ≤ 32) (h : x % 2 ^ k = 0) : x + pw k ≤ 4294967296 :=
  M.step_le (d := 2 ^ k) h (show 4294967296 % 2 ^ k = 0 from M.mod_pow (k := 32) hk) hx

theorem ret_int3 {k l m : IntKind} {a b c d e f : Int} (h : a = b) (g : c = d) (i : e = f) : Ending.returned (.tuple #[.int k a, .int l c, .int m e]) = .returned (.tuple #[.int k b, .int l d, .int m f]) := by rw [h, g, i]

/-- The last address of a valid prefix. -/
def lst (x : Nat) (n : Int) : Nat := x + pw (32 - n.toNat) - 1

/-- Span's answer. -/
def ansS (x : Nat) (n : Int) : Value := if err (x, n) = 0 then .tuple #[.int .u32 (x : Int), .int .u32 ((lst x n : Nat) : Int), .int .i64 0] else .tuple #[.int .u32 0, .int .u32 0, .int .i64 (err (x, n))]

end Go.Proofs.YtcboenmmkaochabDoor.Ad
