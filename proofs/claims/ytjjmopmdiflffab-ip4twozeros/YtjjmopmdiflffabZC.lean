import Derived.Test.YtjjmopmdiflffabMathE
import Derived.Test.YtjjmopmdiflffabWF
import Derived.Test.YtjjmopmdiflffabBL
import Derived.Test.YtjjmopmdiflffabBH
import Derived.Deep.CutRange
namespace Go.Proofs.Ytjjmopmdiflffab
open Go.ChangeShapes Go.WideShapes Go.ChangeAt Go.RowKit
set_option maxHeartbeats 1000000
set_option maxRecDepth 100000

/-- A byte of a list of the call's own is written. -/
theorem OwnB.put {w : World} {base g n cap : Nat} {C : List Nat} (h : OwnB w base (.slice (some ⟨g, 0, none⟩) n cap) C) (i x : Nat) :
    OwnB (w.setCell ⟨g, i, none⟩ (.int .u8 (x : Int))) base (.slice (some ⟨g, 0, none⟩) n cap) (C.set i x) ∧ Below base w (w.setCell ⟨g, i, none⟩ (.int .u8 (x : Int))) := by
  rcases h.2 with ⟨h1, _⟩ | ⟨g', cap', cur, h1, hb, hg, hnc, hcm, hcs, ht⟩
  · cases h1
  · simp at h1
    obtain ⟨rfl, hn, rfl⟩ := h1
    have h2 := heap_setCell_same w g i cur 5 (.int .u8 (x : Int)) hg
    refine ⟨⟨by simp [bs], .inr ⟨g, cap, _, by rw [List.length_set, hn], hb, h2, by rw [List.length_set]; exact hnc, hcm, by simpa using hcs, ?_⟩⟩, (Below.refl _ _).setCell (p := ⟨g, i, none⟩) hb _⟩
    rw [List.length_set]
    simp only [Array.toList_setIfInBounds, List.take_set]
    rw [ht]
    simp [bs, List.map_set]

theorem OwnB.grip {w : World} {base : Nat} {v : Value} {C : List Nat} (h : OwnB w base v C) (hne : C ≠ []) : ∃ g n cap, v = .slice (some ⟨g, 0, none⟩) n cap ∧ Hid (n = C.length) ∧ base ≤ g ∧ n ≤ cap ∧ cap ≤ maxLen ∧ (∀ j, w.frozen? ⟨g, j, none⟩ = false) := by
  rcases h.2 with ⟨rfl, hn⟩ | ⟨g, cap, cur, rfl, hb, hg, hnc, hcm, hcs, ht⟩
  · exact absurd (List.eq_nil_of_length_eq_zero hn) hne
  · exact ⟨g, _, cap, rfl, rfl, hb, hnc, hcm, fun j => frozen_of_row _ _ _ _ _ hg⟩

theorem set_bytes {L : List Nat} (h : ∀ x ∈ L, x < 256) (i : Nat) {y : Nat} (hy : y < 256) : ∀ x ∈ L.set i y, x < 256 := fun x hx => by
  rcases List.mem_or_eq_of_mem_set hx with hx | rfl
  · exact h x hx
  · exact hy

theorem row_id {w : World} {b t : Nat} {h : Hd} {vo vb : Value} (hr : w.heap[b]? = some (.cells (pkCells h vo vb) 29 (0, 0))) : (w.setCell ⟨b, 1, none⟩ (.int .u16 (t : Int))).heap[b]? = some (.cells (pkCells (h.withID t) vo vb) 29 (0, 0)) :=
  heap_setCell_same w b 1 _ 29 _ hr

theorem zeros_bad (h : Hd) (vo vb : Value) (B : List Nat) (w : World) (hok : h.Ok) (hvo : SeesB w vo h.opts) (hvb : SeesB w vb B) (hlo : h.opts.length ≤ 140737488355328) (hlb : B.length ≤ 140737488355328) (he : refE h B.length ≠ 0) :
    Calls Try.prog 13 #[.agg (pkCells h vo vb)] w fun e w' => e = .returned (.bool true) ∧ Below w.heap.size w w' := by
  obtain ⟨w1, hw1⟩ : ∃ w1, w1 = w.alloc (.cells (pkCells h vo vb) 29) := ⟨_, rfl⟩
  have hb1 : Below w.heap.size w w1 := by rw [hw1]; exact (Below.refl _ _).alloc (Nat.le_refl _) _
  have hk1 : w1.heap[w.heap.size]? = some (.cells (pkCells h vo vb) 29 (0, 0)) := by rw [hw1]; exact heap_alloc_new w _
  have e1 : w1.cell? ⟨w.heap.size, 1, none⟩ = some (.int .u16 (h.id : Int)) := pk_at hk1 1 (by omega)
  have f1 : w1.frozen? ⟨w.heap.size, 1, none⟩ = false := frozen_of_row _ _ _ _ _ hk1
  have hk2 := row_id (t := 0) hk1
  have hb2 : Below w.heap.size w (w1.setCell ⟨w.heap.size, 1, none⟩ (.int .u16 ((0 : Nat) : Int))) := hb1.setCell (p := ⟨w.heap.size, 1, none⟩) (Nat.le_refl _) _
  obtain ⟨w2, hw2⟩ : ∃ w2, w2 = w1.setCell ⟨w.heap.size, 1, none⟩ (.int .u16 ((0 : Nat) : Int)) := ⟨_, rfl⟩
  rw [← hw2] at hk2 hb2
  have HW2 : Hid (w2 = w1.setCell ⟨w.heap.size, 1, none⟩ (.int .u16 0)) := hw2
  have HBD := build_code (h.withID 0) vo vb B w2 (withID_ok hok (by omega)) (hvo.below hb2) (hvb.below hb2) hlo hlb
  have HNIL : Hid (builtL (h.withID 0) B = []) := by unfold Hid builtL; rw [withID_ref, if_neg he]
  rw [withID_ref, HNIL.out] at HBD
  have HBD := hid HBD
  have HL2 := hid (pk_load hk2)
  have HW1 := hid hw1
  have HB2 := hid hb2
  generalize refE h B.length = q at *
  have hq : (q != 0) = true := by simp [he]
  generalize pkCells h vo vb = pk at *
  generalize pkCells (h.withID 0) vo vb = pk2 at *
  generalize h.id = ii at *
  clear hw1 hb1 hk1 hvo hvb he hk2 hb2 hw2
  go_enter Try.func13, Try.ntmps13
  go_upto_region 1 with fail
  rw [← HW1.out]
  go_upto_region 2 with fail
  rw [← HW2.out]
  clear e1 f1
  go_wp2_with (first | (refine wpList_ld 29 ⟨w.heap.size, 0, none⟩ (.tmp 1) rfl rfl HL2.out rfl ?_) | fail)
  refine HBD.out.mono ?_
  rintro _ w3 ⟨a1, n1, c1, rfl, h1, hb3⟩
  obtain rfl : n1 = 0 := by
    obtain ⟨_, _, hv, _⟩ := h1
    simp at hv; exact hv.2.1
  clear h1
  go_wp2_with fail
  go_ret
  exact ⟨rfl, HB2.out.trans (hb3.mono HB2.out.size)⟩

set_option maxHeartbeats 2000000 in
theorem zeros_good (h : Hd) (vo vb : Value) (B : List Nat) (w : World) (hok : h.Ok) (hvo : SeesB w vo h.opts) (hvb : SeesB w vb B) (he : refE h B.length = 0) :
    Calls Try.prog 13 #[.agg (pkCells h vo vb)] w fun e w' => e = .returned (.bool true) ∧ Below w.heap.size w w' := by
  obtain ⟨r1, r2, r3⟩ := refE_ok he
  obtain ⟨s, hs, hs16, hl0, hl1, hz, hoks, hp1, hp2⟩ := zero_facts h B hok he
  obtain ⟨l, hl⟩ : ∃ l, l = lenOfPk h B := ⟨_, rfl⟩
  have hl' : l = 20 + h.opts.length + B.length := hl
  rw [← hl] at hl0 hl1
  have HBYT : Hid (∀ x ∈ builtL (h.withID s) B, x < 256) := built_bytes hoks hvo.bytes hvb.bytes
  -- the ages of both
  obtain ⟨R, hR⟩ : ∃ R, R = ageL (builtL (h.withID s) B) := ⟨_, rfl⟩
  have hR2 : ageL (((builtL (h.withID s) B).set 10 255).set 11 255) = R := by rw [hR]; unfold ageL; rw [hp1, hp2]
  have HRT : Hid (2 ≤ h.ttl → R.2 = 0 ∧ R.1.length = l) := fun ht => by
    have e : R = (builtL ((h.withID s).withTTL (h.ttl - 1)) B, 0) := by
      rw [hR]; unfold ageL; rw [hp1]
      show (if (0 : Int) ≠ 0 then _ else if h.ttl < 2 then _ else (builtL ((h.withID s).withTTL (h.ttl - 1)) B, refE h B.length)) = _
      rw [if_neg (by simp), if_neg (by omega), he]
    rw [e]
    have hok2 : ((h.withID s).withTTL (h.ttl - 1)).Ok := ⟨hok.tos, hoks.id, hok.off, by have := hok.ttl; show h.ttl - 1 < 256; omega, hok.proto, hok.src, hok.dst⟩
    obtain ⟨_, x2, _, _⟩ := parse_built ((h.withID s).withTTL (h.ttl - 1)) B [] hok2 he true
    exact ⟨rfl, by rw [hl]; exact x2⟩
  have HAC : Hid (∀ (u : World) (a : Value), SeesB u a (builtL (h.withID s) B) → Calls Try.prog 26 #[a] u fun e w' => ∃ ao n cap, e = .returned (.tuple #[.slice ao n cap, .int .i64 R.2]) ∧ SeesB w' (.slice ao n cap) R.1 ∧ Below u.heap.size u w') := fun u a ha => by
    have := age_code a _ u ha (by omega)
    rw [← hR] at this
    exact this
  have HAD : Hid (∀ (u : World) (a : Value), SeesB u a (((builtL (h.withID s) B).set 10 255).set 11 255) → Calls Try.prog 26 #[a] u fun e w' => ∃ ao n cap, e = .returned (.tuple #[.slice ao n cap, .int .i64 R.2]) ∧ SeesB w' (.slice ao n cap) R.1 ∧ Below u.heap.size u w') := fun u a ha => by
    have := age_code a _ u ha (by rw [List.length_set, List.length_set]; omega)
    rw [hR2] at this
    exact this
  have HPD : Hid (∀ (u : World) (a : Value), SeesB u a (((builtL (h.withID s) B).set 10 255).set 11 255) → Calls Try.prog 21 #[a] u fun e w' => ∃ va xa, e = .returned (.tuple #[.agg (pkCells (h.withID s) va xa), .int .i64 0]) ∧ SeesB w' va h.opts ∧ SeesB w' xa B ∧ Below u.heap.size u w') := fun u a ha => by
    have := parse_code a _ u ha (by rw [List.length_set, List.length_set]; omega)
    rw [hp2] at this
    exact this
  have HBT : Hid (∀ (u : World) (t : Nat), t < 65536 → Below w.heap.size w u → Calls Try.prog 9 #[.agg (pkCells (h.withID t) vo vb)] u fun e w' => ∃ ao n cap, e = .returned (.tuple #[.slice ao n cap, .int .i64 0]) ∧ SeesB w' (.slice ao n cap) (builtL (h.withID t) B) ∧ Below u.heap.size u w') := fun u t ht hu => by
    have hv1 : SeesB u vo (h.withID t).opts := hvo.below hu
    have := build_code (h.withID t) vo vb B u (withID_ok hok ht) hv1 (hvb.below hu) (by show h.opts.length ≤ _; omega) (by omega)
    rw [withID_ref, he] at this
    exact this
  have HBTS : Hid (∀ (u : World), Below w.heap.size w u → Calls Try.prog 9 #[.agg (pkCells (h.withID s) vo vb)] u fun e w' => ∃ ao n cap, e = .returned (.tuple #[.slice ao n cap, .int .i64 0]) ∧ SeesB w' (.slice ao n cap) (builtL (h.withID s) B) ∧ Below u.heap.size u w') := fun u hu => HBT.out u s hs16 hu
  have HPK : Hid (∀ (u : World) (va xa : Value), Below w.heap.size w u → SeesB u va h.opts → SeesB u xa B → Calls Try.prog 24 #[.agg (pkCells (h.withID s) vo vb), .agg (pkCells (h.withID s) va xa)] u fun e w' => e = .returned (.bool true) ∧ Below u.heap.size u w') := fun u va xa hu h1 h2 =>
    packets_same (h.withID s) B vo va vb xa u (hvo.below hu) h1 (hvb.below hu) h2
  have HWB : Hid (∀ (u : World) (a : Value), SeesB u a (builtL (h.withID 0) B) → Calls Try.prog 25 #[a, .int .i64 10] u fun e w' => e = .returned (.int .i64 (s : Int)) ∧ w' = u.drew) := fun u a ha => by
    have := word_x a 10 10 _ u ha rfl (by omega) (by omega)
    rw [hs] at this
    exact this
  have HWC : Hid (∀ (u : World) (a : Value), SeesB u a (builtL (h.withID s) B) → Calls Try.prog 25 #[a, .int .i64 10] u fun e w' => e = .returned (.int .i64 0) ∧ w' = u.drew) := fun u a ha => by
    have := word_x a 10 10 _ u ha rfl (by omega) (by omega)
    rw [hz] at this
    exact this
  -- the packet's own block
  obtain ⟨w1, hw1⟩ : ∃ w1, w1 = w.alloc (.cells (pkCells h vo vb) 29) := ⟨_, rfl⟩
  have hb1 : Below w.heap.size w w1 := by rw [hw1]; exact (Below.refl _ _).alloc (Nat.le_refl _) _
  have hs1 : w1.heap.size = w.heap.size + 1 := by rw [hw1]; simp
  have hk1 : w1.heap[w.heap.size]? = some (.cells (pkCells h vo vb) 29 (0, 0)) := by rw [hw1]; exact heap_alloc_new w _
  have e1 : w1.cell? ⟨w.heap.size, 1, none⟩ = some (.int .u16 (h.id : Int)) := pk_at hk1 1 (by omega)
  have f1 : w1.frozen? ⟨w.heap.size, 1, none⟩ = false := frozen_of_row _ _ _ _ _ hk1
  have hk2 := row_id (t := 0) hk1
  have hb2 : Below w.heap.size w (w1.setCell ⟨w.heap.size, 1, none⟩ (.int .u16 ((0 : Nat) : Int))) := hb1.setCell (p := ⟨w.heap.size, 1, none⟩) (Nat.le_refl _) _
  obtain ⟨w2, hw2⟩ : ∃ w2, w2 = w1.setCell ⟨w.heap.size, 1, none⟩ (.int .u16 ((0 : Nat) : Int)) := ⟨_, rfl⟩
  rw [← hw2] at hk2 hb2
  have HLT2 : Hid (w.heap.size < w2.heap.size) := by unfold Hid; rw [hw2]; simp [World.setCell, hs1]
  have HW2 : Hid (w2 = w1.setCell ⟨w.heap.size, 1, none⟩ (.int .u16 0)) := hw2
  have HROW2 : Hid (∀ u, Below w2.heap.size w2 u → u.heap[w.heap.size]? = some (.cells (pkCells (h.withID 0) vo vb) 29 (0, 0))) := fun u hu => (hu.block _ HLT2.out).trans hk2
  have HBD2 := hid (HBT.out w2 0 (by omega) hb2)
  have HL2 := hid (pk_load hk2)
  have HW1 := hid hw1
  have HB2 := hid hb2
  obtain ⟨ao, n, cap, rfl, _, _, _⟩ := hvo.shape
  obtain ⟨ab, nb, capb, rfl, _, _, _⟩ := hvb.shape
  have h20 : 20 ≤ l := by omega
  have hl16 : l ≤ 65535 := by omega
  have HL0 : Hid ((builtL (h.withID 0) B).length = l) := hl0
  have HL1 : Hid ((builtL (h.withID s) B).length = l) := hl1
  have htt := hok.ttl
  obtain ⟨tt, htte⟩ : ∃ tt, tt = h.ttl := ⟨_, rfl⟩
  have HT5 : Hid (∀ u : World, u.heap[w.heap.size]? = some (.cells (pkCells (h.withID s) (.slice ao n cap) (.slice ab nb capb)) 29 (0, 0)) → u.cell? ⟨w.heap.size, 5, none⟩ = some (.int .u8 (tt : Int))) := fun u hu => by rw [htte]; exact pk_at hu 5 (by omega)
  rw [← htte] at HRT htt
  obtain ⟨R1, Rz⟩ := R
  simp only at HRT HAC HAD
  clear HBT
  generalize builtL (h.withID 0) B = b0 at *
  generalize builtL (h.withID s) B = bl at *
  obtain ⟨pk, hpk⟩ : ∃ pk : Array Value, pk = pkCells h (.slice ao n cap) (.slice ab nb capb) := ⟨_, rfl⟩
  obtain ⟨pk2, hpk2⟩ : ∃ pk2 : Array Value, pk2 = pkCells (h.withID 0) (.slice ao n cap) (.slice ab nb capb) := ⟨_, rfl⟩
  rw [← hpk] at HW1 ⊢
  rw [← hpk2] at HL2 HBD2
  generalize h.id = ii at e1
  clear hw1 hb1 hk1 hvo hvb he hk2 hb2 hw2 hs1 hl0 hl1 hz hoks hp1 hp2 hR hR2 hl hl' r1 r2 r3 hs hok hpk hpk2
  go_enter Try.func13, Try.ntmps13
  go_upto_region 1 with fail
  rw [← HW1.out]
  go_upto_region 2 with fail
  rw [← HW2.out]
  clear e1 f1
  go_wp2_with (first | (refine wpList_ld 29 ⟨w.heap.size, 0, none⟩ (.tmp 1) rfl rfl HL2.out rfl ?_) | fail)
  refine HBD2.out.mono ?_
  rintro _ w3 ⟨a3, n3, c3, rfl, h3, hb3⟩
  obtain rfl : n3 = l := by
    obtain ⟨_, _, hv, _⟩ := h3
    simp at hv
    rw [hv.2.1, HL0.out]
  have HWX := hid (HWB.out w3 _ h3)
  have HB3 := hid hb3
  clear h3 hb3 HBD2 HL2
  go_wp2_with fail
  refine HWX.out.mono ?_
  rintro _ _ ⟨rfl, rfl⟩
  have hb24 : Below w2.heap.size w2 w3.drew := below_drew HB3.out
  generalize w3.drew = w4 at hb24 ⊢
  have hk4 := HROW2.out _ hb24
  have e1 : w4.cell? ⟨w.heap.size, 1, none⟩ = some (.int .u16 0) := pk_at hk4 1 (by omega)
  have f1 : w4.frozen? ⟨w.heap.size, 1, none⟩ = false := frozen_of_row _ _ _ _ _ hk4
  have es : (s : Int) % 65536 = (s : Int) := by omega
  have hk5 := row_id (t := s) hk4
  have hb5 : Below w.heap.size w (w4.setCell ⟨w.heap.size, 1, none⟩ (.int .u16 (s : Int))) := (HB2.out.trans (hb24.mono HB2.out.size)).setCell (p := ⟨w.heap.size, 1, none⟩) (Nat.le_refl _) _
  have hlt5 : w.heap.size < (w4.setCell ⟨w.heap.size, 1, none⟩ (.int .u16 (s : Int))).heap.size := by
    have h1 := hb24.size
    have h2 := HLT2.out
    simp [World.setCell]
    omega
  obtain ⟨w5, hw5⟩ : ∃ w5, w5 = w4.setCell ⟨w.heap.size, 1, none⟩ (.int .u16 (s : Int)) := ⟨_, rfl⟩
  rw [← hw5] at hk5 hb5 hlt5
  have hk5 : w5.heap[w.heap.size]? = some (.cells (pkCells (h.withID s) (.slice ao n cap) (.slice ab nb capb)) 29 (0, 0)) := hk5
  have HW5 := hid hw5
  have HROW5 : Hid (∀ u, Below w5.heap.size w5 u → u.heap[w.heap.size]? = some (.cells (pkCells (h.withID s) (.slice ao n cap) (.slice ab nb capb)) 29 (0, 0))) := fun u hu => (hu.block _ hlt5).trans hk5
  obtain ⟨pk5, hpk5⟩ : ∃ pk5 : Array Value, pk5 = pkCells (h.withID s) (.slice ao n cap) (.slice ab nb capb) := ⟨_, rfl⟩
  have HLD : Hid (∀ u, Below w5.heap.size w5 u → (Instr.loadAt 29 (.pointer (some ⟨w.heap.size, 0, none⟩))).run Try.prog u = .ok (.agg pk5) u) := fun u hu => by rw [hpk5]; exact pk_load (HROW5.out u hu)
  have HBD5 := HBTS.out w5 hb5
  rw [← hpk5] at HBD5
  have HBD5 := hid HBD5
  have HL5 := hid (HLD.out _ (Below.refl _ _))
  have HB5 := hid hb5
  have HPK5 := hid hpk5
  clear hk4 hk5 hb5 hlt5 hw5 hb24 hpk5 HWX
  go_upto_region 8 with fail
  rw [← HW5.out]
  clear e1 f1
  go_wp2_with (first | (refine wpList_ld 29 ⟨w.heap.size, 0, none⟩ (.tmp 1) rfl rfl HL5.out rfl ?_) | fail)
  refine HBD5.out.mono ?_
  rintro _ w6 ⟨a6, n6, c6, rfl, h6, hb6⟩
  obtain rfl : n6 = n3 := by
    obtain ⟨_, _, hv, _⟩ := h6
    simp at hv
    rw [hv.2.1, HL1.out]
  have HWX := hid (HWC.out w6 _ h6)
  have HS6 := hid h6
  have HB6 := hid hb6
  clear h6 hb6 HBD5 HL5
  go_wp2_with fail
  refine HWX.out.mono ?_
  rintro _ _ ⟨rfl, rfl⟩
  have hb57 : Below w5.heap.size w5 w6.drew := below_drew HB6.out
  have h7 : SeesB w6.drew (.slice a6 n6 c6) bl := HS6.out.below (below_drew (Below.refl _ _))
  generalize w6.drew = w7 at hb57 h7 ⊢
  have HCA := hid (lclone_any _ bl w7 h7 (by rw [HL1.out]; omega))
  have HS7 := hid h7
  have HB57 := hid hb57
  clear h7 hb57 HWX HS6 HB6
  go_wp2_with fail
  refine HCA.out.mono ?_
  rintro _ w8 ⟨v8, rfl, hO8, hb8⟩
  obtain ⟨g, n8, c8, rfl, HN8, hg8, hnc8, hcm8, hfz⟩ := hO8.grip (fun e => by have := HL1.out; rw [e] at this; simp at this; omega)
  obtain rfl : n8 = n6 := by rw [HN8.out, HL1.out]
  have hs8 := hO8.sees HBYT.out
  obtain ⟨g', off', hgo, _, hc10⟩ := hs8.atB 10 (by omega)
  simp at hgo
  obtain ⟨rfl, rfl⟩ := hgo
  obtain ⟨g', off', hgo, _, hc11⟩ := hs8.atB 11 (by omega)
  simp at hgo
  obtain ⟨rfl, rfl⟩ := hgo
  rw [Nat.zero_add] at hc10 hc11
  have f10 := hfz 10
  have f11 := hfz 11
  obtain ⟨hO8', hb8'⟩ := hO8.put 10 255
  obtain ⟨hO9, hb9⟩ := hO8'.put 11 255
  have hb79 := hb8.trans (hb8'.trans hb9)
  obtain ⟨w9, hw9⟩ : ∃ w9, w9 = (w8.setCell ⟨g, 10, none⟩ (.int .u8 ((255 : Nat) : Int))).setCell ⟨g, 11, none⟩ (.int .u8 ((255 : Nat) : Int)) := ⟨_, rfl⟩
  rw [← hw9] at hO9 hb79
  have HW9 : Hid (w9 = (w8.setCell ⟨g, 10, none⟩ (.int .u8 255)).setCell ⟨g, 11, none⟩ (.int .u8 255)) := hw9
  have hs9 := hO9.sees (set_bytes (set_bytes HBYT.out 10 (by omega)) 11 (by omega))
  have hb59 := HB57.out.trans (hb79.mono HB57.out.size)
  have HPR := hid (HPD.out w9 _ hs9)
  have HS9 := hid hs9
  have HB79 := hid hb79
  have HB59 := hid hb59
  have b10 : (10 : Int) < (n8 : Int) := by omega
  have b11 : (11 : Int) < (n8 : Int) := by omega
  clear hO8 hO8' hO9 hb8 hb8' hb9 hb79 hs8 hs9 hb59 hw9 hfz HCA
  go_upto_region 14 with fail
  rw [← HW9.out]
  clear hc10 hc11 f10 f11
  go_wp2_with fail
  refine HPR.out.mono ?_
  rintro _ w10 ⟨va, xa, rfl, ha, ka, hb10⟩
  obtain ⟨a9, n9, c9, rfl, _, _, _⟩ := ha.shape
  obtain ⟨a10, n10, c10, rfl, _, _, _⟩ := ka.shape
  obtain ⟨pa, hpa⟩ : ∃ pa : Array Value, pa = pkCells (h.withID s) (.slice a9 n9 c9) (.slice a10 n10 c10) := ⟨_, rfl⟩
  have hpz : pa.size = Z29.size := by rw [hpa]; rfl
  have HZA : Hid ((Try.prog.info? 29).map (·.size) = some pa.size) := by unfold Hid; rw [hpa]; exact size29'
  have HOA : Hid (pa.all (·.oneCell') = true) := by unfold Hid; rw [hpa]; simp [pkCells, Value.oneCell']
  have HTA := hid (new_there (u := w10) (T := 29) hpz)
  have HNA := new_put (u := w10) (T := 29) hpz
  obtain ⟨w11, hw11⟩ : ∃ w11, w11 = (w10.alloc (.cells Z29 29)).setCells w10.heap.size 0 pa.toList := ⟨_, rfl⟩
  rw [← hw11] at HNA
  have HW11 : Hid (w11 = (w10.alloc (.cells #[.int .u8 0, .int .u16 0, .bool false, .bool false, .int .i64 0, .int .u8 0, .int .u8 0, .int .u32 0, .int .u32 0, .slice none 0 0, .slice none 0 0] 29)).setCells w10.heap.size 0 pa.toList) := hw11
  have hb911 : Below w9.heap.size w9 w11 := hb10.trans (HNA.below.mono hb10.size)
  have hb711 : Below w7.heap.size w7 w11 := HB79.out.trans (hb911.mono HB79.out.size)
  have hb511 : Below w5.heap.size w5 w11 := HB59.out.trans (hb911.mono HB59.out.size)
  have HAC11 := hid (HAC.out w11 _ (HS7.out.below hb711))
  have HLQ : Hid (∀ v, Below w11.heap.size w11 v → (Instr.loadAt 29 (.pointer (some ⟨w10.heap.size, 0, none⟩))).run Try.prog v = .ok (.agg pa) v) := fun v hv => load_range (range_grow HNA.range hv HNA.lt) und29 HZA.out
  have HPKT : Hid (∀ v, Below w11.heap.size w11 v → Calls Try.prog 24 #[.agg pk5, .agg pa] v fun e w' => e = .returned (.bool true) ∧ Below v.heap.size v w') := fun v hv => by
    rw [hpa, HPK5.out]
    have h1 := hb511.trans (hv.mono hb511.size)
    exact HPK.out v _ _ (HB5.out.trans (h1.mono HB5.out.size)) ((ha.below HNA.below).below hv) ((ka.below HNA.below).below hv)
  have HB911 := hid hb911
  have HB511 := hid hb511
  rw [← hpa]
  clear hpa hpz hw11 hb10 hb911 hb711 hb511 ha ka HPR HNA
  go_upto_region 15 with (first
    | (refine wpList_store_mid rfl 29 (.tmp 8) (.tmp 60) rfl w10.heap.size 0 pa rfl rfl HTA.out HZA.out HOA.out ?_)
    | fail)
  rw [← HW11.out]
  go_wp2_with fail
  refine HAC11.out.mono ?_
  rintro _ w12 ⟨a12, n12, c12, rfl, hs12, hb12⟩
  have hb912 := HB911.out.trans (hb12.mono HB911.out.size)
  have HAD12 := hid (HAD.out w12 _ (HS9.out.below hb912))
  have HS12 := hid hs12
  have HB12 := hid hb12
  clear hs12 hb12 hb912 HAC11
  go_wp2_with fail
  refine HAD12.out.mono ?_
  rintro _ w13 ⟨a13, n13, c13, rfl, hs13, hb13⟩
  have hb1113 := HB12.out.trans (hb13.mono HB12.out.size)
  have hb513 := HB511.out.trans (hb1113.mono HB511.out.size)
  have e5 := HT5.out _ (HROW5.out _ hb513)
  have HLP13 := hid (HLD.out _ hb513)
  have HLQ13 := hid (HLQ.out _ hb1113)
  have HPK13 := hid (HPKT.out _ hb1113)
  have HSA : Hid (∀ v, Below w13.heap.size w13 v → Calls Try.prog 23 #[.slice a12 n12 c12, .slice a13 n13 c13] v fun e w' => e = .returned (.bool true) ∧ Below v.heap.size v w') := fun v hv => by
    have := same_any (.slice a12 n12 c12) (.slice a13 n13 c13) R1 R1 v ((HS12.out.below hb13).below hv) (hs13.below hv)
    rw [decide_eq_true rfl] at this
    exact this
  have HBF := hid (HB5.out.trans (hb513.mono HB5.out.size))
  have HN12 : Hid (n12 = R1.length) := by
    obtain ⟨_, _, hv, _⟩ := HS12.out
    simp at hv
    exact hv.2.1
  clear hs13 hb13 hb1113 hb513 HAD12
  by_cases h2 : 2 ≤ tt
  · obtain ⟨rfl, hrl⟩ := HRT.out h2
    obtain rfl : n12 = n8 := by rw [HN12.out, hrl]
    have hgt : decide ((1 : Int) < (tt : Int)) = true := by simp; omega
    clear hrl HRT HN12
    go_upto_region 19 with fail
    go_wp2_with (first
      | (refine wpList_ld 29 ⟨w.heap.size, 0, none⟩ (.tmp 1) rfl rfl HLP13.out rfl ?_)
      | (refine wpList_ld 29 ⟨w10.heap.size, 0, none⟩ (.tmp 8) rfl rfl HLQ13.out rfl ?_)
      | fail)
    refine HPK13.out.mono ?_
    rintro _ w14 ⟨rfl, hb14⟩
    have HSB := hid (HSA.out _ hb14)
    have HB14 := hid (HBF.out.trans (hb14.mono HBF.out.size))
    clear hb14
    go_wp2_with fail
    refine HSB.out.mono ?_
    rintro _ w15 ⟨rfl, hb15⟩
    go_wp2_with fail
    go_ret
    exact ⟨rfl, HB14.out.trans (hb15.mono HB14.out.size)⟩
  · have hgt : decide ((1 : Int) < (tt : Int)) = false := by simp; omega
    have hgt' : ¬ (1 : Int) < (tt : Int) := by omega
    clear HRT HN12
    go_upto_region 19 with fail
    go_wp2_with (first
      | (refine wpList_ld 29 ⟨w.heap.size, 0, none⟩ (.tmp 1) rfl rfl HLP13.out rfl ?_)
      | (refine wpList_ld 29 ⟨w10.heap.size, 0, none⟩ (.tmp 8) rfl rfl HLQ13.out rfl ?_)
      | fail)
    refine HPK13.out.mono ?_
    rintro _ w14 ⟨rfl, hb14⟩
    have HSB := hid (HSA.out _ hb14)
    have HB14 := hid (HBF.out.trans (hb14.mono HBF.out.size))
    clear hb14
    go_wp2_with fail
    refine HSB.out.mono ?_
    rintro _ w15 ⟨rfl, hb15⟩
    go_wp2_with fail
    go_ret
    exact ⟨rfl, HB14.out.trans (hb15.mono HB14.out.size)⟩
end Go.Proofs.Ytjjmopmdiflffab
