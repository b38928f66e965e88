import Derived.Test.YtenhofbhkchjoabDoorSC
namespace Go.Proofs.YtenhofbhkchjoabDoor.Mg
open Go.ChangeShapes Go.WideShapes Go.ChangeAt Go.RowKit
set_option maxHeartbeats 400000
set_option maxRecDepth 100000

/-- One step of a script. -/
structure Stp where
  kind : Int
  text : ByteArray
  I : Itm
  lo : Nat
  hi : Nat
  ps : Value
  at_ : Int
  hlo : lo < 4294967296
  hhi : hi < 4294967296

def Stp.cells (o : Stp) : Array Value := #[.int .i64 o.kind, .string o.text, .int .u32 o.I.a, .int .u32 o.I.x, .int .i64 o.I.n, .int .u8 (o.I.m 0), .int .u8 (o.I.m 1), .int .u8 (o.I.m 2), .int .u8 (o.I.m 3), .int .u8 (o.I.m 4), .int .u8 (o.I.m 5), .int .u32 o.lo, .int .u32 o.hi, o.ps, .int .i64 o.at_]

/-- What a step may be asked in the world w. -/
structure Fit (w : World) (o : Stp) (D : List (Nat × Int)) : Prop where
  ht : o.text.size ≤ maxLen
  hs : Sees w o.ps D
  ha : Adr D
  hb : D.length * 16 ≤ 140737488355328

/-- What holds between two steps. -/
structure Ok (w : World) (B p N : Nat) : Prop where
  st : ∃ vl vs vw L KA KC, St w B p vl vs vw L KA KC ∧ KA.map Prod.snd = KC.map Prod.snd ∧ KA.length ≤ N ∧ Adr L ∧ L.length * 16 ≤ 140737488355328

theorem Fit.below {w w' : World} {o : Stp} {D : List (Nat × Int)} (h : Fit w o D) (hb : Below w.heap.size w w') : Fit w' o D := ⟨h.ht, h.hs.below hb, h.ha, h.hb⟩

theorem Ok.below {w w' : World} {B p N : Nat} (h : Ok w B p N) (hb : Below w.heap.size w w') : Ok w' B p N := by
  obtain ⟨vl, vs, vw, L, KA, KC, h1, h2⟩ := h.st
  exact ⟨vl, vs, vw, L, KA, KC, h1.below hb, h2⟩

theorem Ok.mono {w : World} {B p N M : Nat} (h : Ok w B p N) (hb : N ≤ M) : Ok w B p M := by
  obtain ⟨vl, vs, vw, L, KA, KC, h1, h2, h3, h4⟩ := h.st
  exact ⟨vl, vs, vw, L, KA, KC, h1, h2, Nat.le_trans h3 hb, h4⟩

theorem Ok.lt {w : World} {B p N : Nat} (h : Ok w B p N) : B ≤ w.heap.size := by
  obtain ⟨vl, vs, vw, L, KA, KC, h1, _⟩ := h.st
  exact Nat.le_trans h1.lo (Nat.le_of_lt h1.lt)

/-- Merges, as one of the steps. -/
theorem mergesO_any {w : World} {B p N : Nat} (h : Ok w B p N) (hN : (N + 1) * 24 ≤ 140737488355328) :
    Calls Tryd.prog 36 #[.pointer (some ⟨p, 0, none⟩)] w fun e w' => e = .returned (.bool true) ∧ Ok w' B p (N + 1) ∧ Below B w w' := by
  obtain ⟨vl, vs, vw, L, KA, KC, h1, h2, h3, h4, h5⟩ := h.st
  have hl : KA.length = KC.length := by have := congrArg List.length h2; simpa using this
  refine (mergesS_any h1 h4 h5 (by omega) (by omega)).mono ?_
  rintro e w' ⟨rfl, vs', vw', v, u, D, k1, k2⟩
  refine ⟨rfl, ⟨vl, vs', vw', L, _, _, k1, by simp [h2], by simp; omega, h4, h5⟩, k2.below h.lt fun k hk => ?_⟩
  rcases hk with rfl | hk | hk
  · exact h1.lo
  · exact (h1.os.lt k hk).1
  · exact (h1.ow.lt k hk).1

/-- The step's variable. -/
theorem Stp.at {w : World} (o : Stp) : ∀ u : Beh (w.alloc (.cells o.cells 45)), ∀ i (hi : i < 15), u.wd.cell? ⟨w.heap.size, i, none⟩ = some (o.cells[i]'hi) := by
  intro u i hi
  have hr : (w.alloc (.cells o.cells 45)).heap[w.heap.size]? = some (.cells o.cells 45 (0, 0)) := heap_alloc_new w _
  have r := (u.ok.block w.heap.size (by simp)).trans hr
  rw [cell_of_row _ _ _ _ _ _ r]
  exact Array.getElem?_eq_getElem _

set_option maxHeartbeats 4000000 in
theorem plays_text {w : World} {B p N : Nat} (o : Stp) (D : List (Nat × Int)) (h : Ok w B p N) (hf : Fit w o D) (ht : Tab w) (hN : (N + 1) * 24 ≤ 140737488355328) (hk : o.kind = 1) :
    Calls Tryd.prog 10 #[.pointer (some ⟨p, 0, none⟩), .agg o.cells] w fun e w' => e = .returned (.bool true) ∧ Ok w' B p (N + 1) ∧ Below B w w' := by
  obtain ⟨wa, hwa⟩ : ∃ wa, wa = w.alloc (.cells o.cells 45) := ⟨_, rfl⟩
  have hb0 : Below w.heap.size w wa := by rw [hwa]; exact (Below.refl _ _).alloc (Nat.le_refl _) _
  have hsa : w.heap.size < wa.heap.size := by rw [hwa]; simp
  have q := Stp.at (w := w) o
  rw [← hwa] at q
  have q0 : ∀ u : Beh wa, u.wd.cell? ⟨w.heap.size, 0, none⟩ = some (.int .i64 1) := fun u => (q u 0 (by omega)).trans (by rw [← hk]; rfl)
  have q1 : ∀ u : Beh wa, u.wd.cell? ⟨w.heap.size, 1, none⟩ = some (.string o.text) := fun u => q u 1 (by omega)
  have HP : Hid (∀ u : Beh wa, Calls Tryd.prog 7 #[.string o.text] u.wd fun e w' => e = .returned (.bool true) ∧ ∃ u' : Beh wa, w' = u'.wd) := fun u => Calls.beh (parses_any o.text u.wd hf.ht (ht.below (hb0.trans (u.ok.mono hb0.size))))
  clear ht
  have HO := hid h
  have HF := hid hf
  have HNN := hid hN
  have HB0 := hid hb0
  have HSA := hid hsa
  have hlw := h.lt
  clear q hf h hN hb0 hsa
  unfold Stp.cells at hwa ⊢
  have HWA := hid hwa
  obtain ⟨u0, hu0⟩ : ∃ u0 : Beh wa, u0.wd = wa := ⟨⟨wa, Below.refl _ _⟩, rfl⟩
  have HU0 := hid hu0
  clear hwa hu0
  rw [hk] at HWA ⊢
  go_enter Tryd.func10, Tryd.ntmps10
  go_wp2_with fail
  rw [← HWA.out, ← HU0.out]
  go_wp2_with fail
  refine (HP.out u0).mono ?_
  rintro _ _ ⟨rfl, u1, rfl⟩
  go_wp2_with fail
  go_ret
  have hb1 := HB0.out.trans (u1.ok.mono HB0.out.size)
  exact ⟨rfl, (HO.out.below hb1).mono (Nat.le_succ _), hb1.mono hlw⟩

set_option maxHeartbeats 4000000 in
theorem plays_item {w : World} {B p N : Nat} (o : Stp) (D : List (Nat × Int)) (h : Ok w B p N) (hf : Fit w o D) (ht : Tab w) (htc : TabC w) (hN : (N + 1) * 24 ≤ 140737488355328) (hk : o.kind = 2) :
    Calls Tryd.prog 10 #[.pointer (some ⟨p, 0, none⟩), .agg o.cells] w fun e w' => e = .returned (.bool true) ∧ Ok w' B p (N + 1) ∧ Below B w w' := by
  obtain ⟨wa, hwa⟩ : ∃ wa, wa = w.alloc (.cells o.cells 45) := ⟨_, rfl⟩
  have hb0 : Below w.heap.size w wa := by rw [hwa]; exact (Below.refl _ _).alloc (Nat.le_refl _) _
  have hsa : w.heap.size < wa.heap.size := by rw [hwa]; simp
  have q := Stp.at (w := w) o
  rw [← hwa] at q
  have q0 : ∀ u : Beh wa, u.wd.cell? ⟨w.heap.size, 0, none⟩ = some (.int .i64 2) := fun u => (q u 0 (by omega)).trans (by rw [← hk]; rfl)
  have q2 : ∀ u : Beh wa, u.wd.cell? ⟨w.heap.size, 2, none⟩ = some (.int .u32 (o.I.a : Int)) := fun u => q u 2 (by omega)
  have q3 : ∀ u : Beh wa, u.wd.cell? ⟨w.heap.size, 3, none⟩ = some (.int .u32 (o.I.x : Int)) := fun u => q u 3 (by omega)
  have q4 : ∀ u : Beh wa, u.wd.cell? ⟨w.heap.size, 4, none⟩ = some (.int .i64 o.I.n) := fun u => q u 4 (by omega)
  have q5 : ∀ u : Beh wa, u.wd.cell? ⟨w.heap.size, 5, none⟩ = some (.int .u8 (o.I.m 0 : Int)) := fun u => q u 5 (by omega)
  have q6 : ∀ u : Beh wa, u.wd.cell? ⟨w.heap.size, 6, none⟩ = some (.int .u8 (o.I.m 1 : Int)) := fun u => q u 6 (by omega)
  have q7 : ∀ u : Beh wa, u.wd.cell? ⟨w.heap.size, 7, none⟩ = some (.int .u8 (o.I.m 2 : Int)) := fun u => q u 7 (by omega)
  have q8 : ∀ u : Beh wa, u.wd.cell? ⟨w.heap.size, 8, none⟩ = some (.int .u8 (o.I.m 3 : Int)) := fun u => q u 8 (by omega)
  have q9 : ∀ u : Beh wa, u.wd.cell? ⟨w.heap.size, 9, none⟩ = some (.int .u8 (o.I.m 4 : Int)) := fun u => q u 9 (by omega)
  have q10 : ∀ u : Beh wa, u.wd.cell? ⟨w.heap.size, 10, none⟩ = some (.int .u8 (o.I.m 5 : Int)) := fun u => q u 10 (by omega)
  have HP : Hid (∀ u : Beh wa, Calls Tryd.prog 8 #[.agg #[.int .u32 o.I.a, .int .u32 o.I.x, .int .i64 o.I.n, .int .u8 (o.I.m 0), .int .u8 (o.I.m 1), .int .u8 (o.I.m 2), .int .u8 (o.I.m 3), .int .u8 (o.I.m 4), .int .u8 (o.I.m 5)]] u.wd fun e w' => e = .returned (.bool true) ∧ ∃ u' : Beh wa, w' = u'.wd) := fun u => Calls.beh (formats_any o.I u.wd (ht.below (hb0.trans (u.ok.mono hb0.size))))
  have HH : Hid (∀ u : Beh wa, Calls Tryd.prog 9 #[.agg #[.int .u32 o.I.a, .int .u32 o.I.x, .int .i64 o.I.n, .int .u8 (o.I.m 0), .int .u8 (o.I.m 1), .int .u8 (o.I.m 2), .int .u8 (o.I.m 3), .int .u8 (o.I.m 4), .int .u8 (o.I.m 5)]] u.wd fun e w' => e = .returned (.bool true) ∧ ∃ u' : Beh wa, w' = u'.wd) := fun u => Calls.beh (holds_any o.I u.wd (htc.below (hb0.trans (u.ok.mono hb0.size))))
  clear ht htc
  have HO := hid h
  have HF := hid hf
  have HNN := hid hN
  have HB0 := hid hb0
  have HSA := hid hsa
  have hlw := h.lt
  clear q hf h hN hb0 hsa
  unfold Stp.cells at hwa ⊢
  have HWA := hid hwa
  obtain ⟨u0, hu0⟩ : ∃ u0 : Beh wa, u0.wd = wa := ⟨⟨wa, Below.refl _ _⟩, rfl⟩
  have HU0 := hid hu0
  clear hwa hu0
  rw [hk] at HWA ⊢
  go_enter Tryd.func10, Tryd.ntmps10
  go_wp2_with fail
  rw [← HWA.out, ← HU0.out]
  go_wp2_with fail
  refine (HP.out u0).mono ?_
  rintro _ _ ⟨rfl, u1, rfl⟩
  go_wp2_with fail
  refine (HH.out u1).mono ?_
  rintro _ _ ⟨rfl, u2, rfl⟩
  go_wp2_with fail
  go_ret
  have hb1 := HB0.out.trans (u2.ok.mono HB0.out.size)
  exact ⟨rfl, (HO.out.below hb1).mono (Nat.le_succ _), hb1.mono hlw⟩

set_option maxHeartbeats 4000000 in
theorem plays_cover {w : World} {B p N : Nat} (o : Stp) (D : List (Nat × Int)) (h : Ok w B p N) (hf : Fit w o D) (hN : (N + 1) * 24 ≤ 140737488355328) (hk : o.kind = 3) :
    Calls Tryd.prog 10 #[.pointer (some ⟨p, 0, none⟩), .agg o.cells] w fun e w' => e = .returned (.bool true) ∧ Ok w' B p (N + 1) ∧ Below B w w' := by
  obtain ⟨wa, hwa⟩ : ∃ wa, wa = w.alloc (.cells o.cells 45) := ⟨_, rfl⟩
  have hb0 : Below w.heap.size w wa := by rw [hwa]; exact (Below.refl _ _).alloc (Nat.le_refl _) _
  have hsa : w.heap.size < wa.heap.size := by rw [hwa]; simp
  have q := Stp.at (w := w) o
  rw [← hwa] at q
  have q0 : ∀ u : Beh wa, u.wd.cell? ⟨w.heap.size, 0, none⟩ = some (.int .i64 3) := fun u => (q u 0 (by omega)).trans (by rw [← hk]; rfl)
  have q11 : ∀ u : Beh wa, u.wd.cell? ⟨w.heap.size, 11, none⟩ = some (.int .u32 (o.lo : Int)) := fun u => q u 11 (by omega)
  have q12 : ∀ u : Beh wa, u.wd.cell? ⟨w.heap.size, 12, none⟩ = some (.int .u32 (o.hi : Int)) := fun u => q u 12 (by omega)
  have HO := hid h
  have HF := hid hf
  have HNN := hid hN
  have HB0 := hid hb0
  have HSA := hid hsa
  have hlw := h.lt
  clear q hf h hN hb0 hsa
  unfold Stp.cells at hwa ⊢
  have HWA := hid hwa
  obtain ⟨u0, hu0⟩ : ∃ u0 : Beh wa, u0.wd = wa := ⟨⟨wa, Below.refl _ _⟩, rfl⟩
  have HU0 := hid hu0
  clear hwa hu0
  rw [hk] at HWA ⊢
  go_enter Tryd.func10, Tryd.ntmps10
  go_wp2_with fail
  rw [← HWA.out, ← HU0.out]
  go_wp2_with fail
  refine (cover_any o.lo o.hi _ o.hlo o.hhi).mono ?_
  rintro e w1 ⟨v1, rfl, hown1, hb1⟩
  obtain ⟨u1, rfl⟩ : ∃ u1 : Beh wa, w1 = u1.wd := ⟨⟨w1, u0.ok.trans (hb1.mono u0.ok.size)⟩, rfl⟩
  go_wp2_with fail
  refine (refCover_any o.lo o.hi _ o.hlo o.hhi).mono ?_
  rintro e w2 ⟨v2, rfl, hown2, hb2⟩
  obtain ⟨u2, rfl⟩ : ∃ u2 : Beh wa, w2 = u2.wd := ⟨⟨w2, u1.ok.trans (hb2.mono u1.ok.size)⟩, rfl⟩
  have hbw0 := HB0.out.trans (u0.ok.mono HB0.out.size)
  obtain ⟨vl, vs, vw, L, KA, KC, h1, h2, h3, h4, h5⟩ := HO.out.st
  have hl : KA.length = KC.length := by have := congrArg List.length h2; simpa using this
  have hS0 := h1.below hbw0
  have hS1 := hS0.below hb1
  have hS2 := hS1.below hb2
  have ho1 : Off u2.wd p vl vs vw v1 := Off.chg (hS0.off hown1) hb2.size
  have ho2 : Off u2.wd p vl vs vw v2 := hS1.off hown2
  have hs1 := (sees_of_owns hown1).below hb2
  have hs2 := sees_of_owns hown2
  have hlen : ((M.cv o.lo o.hi).map pv).length * 16 ≤ 140737488355328 := by have := M.cv_len o.lo o.hi; rw [List.length_map]; omega
  have HLEN := hid hlen
  have HS2 := hid hS2
  have HO1 := hid ho1
  have HO2 := hid ho2
  have HH1 := hid h1
  have HH2 := hid h2
  have HH3 := hid h3
  have HH5 := hid h5
  have HHL := hid hl
  have HB2 := hid (hbw0.trans ((hb1.trans (hb2.mono hb1.size)).mono hbw0.size))
  clear hlen hS0 hS1 hS2 ho1 ho2 h1 h2 h3 h5 hl hown1 hown2 hb1 hb2 hbw0
  go_wp2_with fail
  refine (answers_any HS2.out hs1 HO1.out HLEN.out (by have := HH3.out; have := HNN.out; omega) (by have := HH3.out; have := HHL.out; have := HNN.out; omega) (Nat.le_trans HS2.out.lo (Nat.le_of_lt HS2.out.lt))).mono ?_
  rintro e w3 ⟨rfl, vs', vw', u, hS3, hc3⟩
  have hne : ∀ v, Off u2.wd p vl vs vw v → ∀ k, v.ownBlock = some k → ¬ (k = p ∨ vs.ownBlock = some k ∨ vw.ownBlock = some k) := fun v hv k hk e => by
    obtain ⟨_, a, _, b, c⟩ := hv k hk
    rcases e with e | e | e
    · exact a e
    · exact b e.symm
    · exact c e.symm
  have hs1' := sees_chg hs1 hc3 (hne _ HO1.out)
  have hs2' := sees_chg hs2 hc3 (hne _ HO2.out)
  have HC3 := hid hc3
  have HS3 := hid hS3
  clear hne hc3 hS3 hs1 hs2
  go_wp2_with fail
  refine (same_any v1 v2 _ _ _ hs1' hs2').mono ?_
  rintro e w4 ⟨rfl, qn, rfl⟩
  simp only [decide_true]
  go_wp2_with fail
  go_ret
  have hbq : Below w3.heap.size w3 (w3.drewN qn) := below_drewN (Below.refl _ _) qn
  have hb23 : Below B u2.wd w3 := HC3.out.below (Nat.le_trans HS2.out.lo (Nat.le_of_lt HS2.out.lt)) fun k hk => by
    rcases hk with rfl | hk | hk
    · exact HS2.out.lo
    · exact (HS2.out.os.lt k hk).1
    · exact (HS2.out.ow.lt k hk).1
  refine ⟨rfl, Ok.below ⟨vl, vs', vw', L, _, _, HS3.out, by simp [HH2.out], by have := HH3.out; simp; omega, h4, HH5.out⟩ hbq, ?_⟩
  exact (HB2.out.mono hlw).trans (hb23.trans (hbq.mono (Nat.le_trans HS3.out.lo (Nat.le_of_lt HS3.out.lt))))

set_option maxHeartbeats 4000000 in
theorem plays_merge {w : World} {B p N : Nat} (o : Stp) (D : List (Nat × Int)) (h : Ok w B p N) (hf : Fit w o D) (hN : (N + 1) * 24 ≤ 140737488355328) (hk : o.kind = 4) :
    Calls Tryd.prog 10 #[.pointer (some ⟨p, 0, none⟩), .agg o.cells] w fun e w' => e = .returned (.bool true) ∧ Ok w' B p (N + 1) ∧ Below B w w' := by
  obtain ⟨wa, hwa⟩ : ∃ wa, wa = w.alloc (.cells o.cells 45) := ⟨_, rfl⟩
  have hb0 : Below w.heap.size w wa := by rw [hwa]; exact (Below.refl _ _).alloc (Nat.le_refl _) _
  have hsa : w.heap.size < wa.heap.size := by rw [hwa]; simp
  have q := Stp.at (w := w) o
  rw [← hwa] at q
  have q0 : ∀ u : Beh wa, u.wd.cell? ⟨w.heap.size, 0, none⟩ = some (.int .i64 4) := fun u => (q u 0 (by omega)).trans (by rw [← hk]; rfl)
  have q13 : ∀ u : Beh wa, u.wd.cell? ⟨w.heap.size, 13, none⟩ = some (o.ps) := fun u => q u 13 (by omega)
  have HO := hid h
  have HF := hid hf
  have HNN := hid hN
  have HB0 := hid hb0
  have HSA := hid hsa
  have hlw := h.lt
  clear q hf h hN hb0 hsa
  unfold Stp.cells at hwa ⊢
  have HWA := hid hwa
  obtain ⟨u0, hu0⟩ : ∃ u0 : Beh wa, u0.wd = wa := ⟨⟨wa, Below.refl _ _⟩, rfl⟩
  have HU0 := hid hu0
  clear hwa hu0
  rw [hk] at HWA ⊢
  go_enter Tryd.func10, Tryd.ntmps10
  go_wp2_with fail
  rw [← HWA.out, ← HU0.out]
  have hbw0 := HB0.out.trans (u0.ok.mono HB0.out.size)
  obtain ⟨vl, vs, vw, L, KA, KC, h1, h2, h3, h4, h5⟩ := HO.out.st
  have hS0 := h1.below hbw0
  have hF0 := HF.out.below hbw0
  have HS0 := hid hS0
  have HH1 := hid h1
  have HH2 := hid h2
  have HH3 := hid h3
  have HH5 := hid h5
  have HF0 := hid hF0
  have HBW := hid hbw0
  have HPS := HF0.out.hs
  clear hS0 h1 h2 h3 h5 hF0 hbw0
  go_wp2_with fail
  refine (copied_any _ D _ HPS HF0.out.hb).mono ?_
  rintro e w1 ⟨v1, rfl, hown1, hb1⟩
  obtain ⟨xo, xn, xc, rfl, HXN, hx1, hx2⟩ := (sees_of_ownsP hown1).shape
  have hS1 := HS0.out.below hb1
  have hoff := HS0.out.off hown1
  obtain ⟨c0, _, _, cf⟩ := row3_at hS1.row
  have hp1 := hS1.lt
  have hS2 : St (w1.setCell ⟨p, 0, none⟩ (.slice xo xn xc)) B p (.slice xo xn xc) vs vw D KA KC := by
    refine hS1.setLast (owns_mono hown1 (Nat.le_trans HS0.out.lo (Nat.le_of_lt HS0.out.lt))) hoff fun r hr k hk e => ?_
    have a := ((HS0.out.kept r hr).2 k hk).1
    have b := (hown1.lt k e.symm).1
    omega
  obtain ⟨w2, hw2⟩ : ∃ w2, w2 = w1.setCell ⟨p, 0, none⟩ (.slice xo xn xc) := ⟨_, rfl⟩
  rw [← hw2] at hS2
  have hb12 : Below B w1 w2 := by rw [hw2]; exact (Below.refl _ _).setCell HS0.out.lo _
  have HW2 := hid hw2
  have HS2 := hid hS2
  have HB12 := hid hb12
  have HB1 := hid hb1
  clear hw2 hS1 hoff hown1 hS2 hb12 hb1
  go_wp2_with fail
  rw [← HW2.out]
  have hO2 : Ok w2 B p N := ⟨.slice xo xn xc, vs, vw, D, KA, KC, HS2.out, HH2.out, HH3.out, HF0.out.ha, HF0.out.hb⟩
  refine (mergesO_any hO2 HNN.out).mono ?_
  rintro e w3 ⟨rfl, hO3, hb3⟩
  go_wp2_with fail
  go_ret
  refine ⟨rfl, hO3, ?_⟩
  have t1 : Below B w u0.wd := HBW.out.mono hlw
  have t2 : Below B u0.wd w1 := HB1.out.mono (Nat.le_trans HS0.out.lo (Nat.le_of_lt HS0.out.lt))
  exact t1.trans (t2.trans (HB12.out.trans hb3))

set_option maxHeartbeats 4000000 in
theorem plays_same {w : World} {B p N : Nat} (o : Stp) (D : List (Nat × Int)) (h : Ok w B p N) (hf : Fit w o D) (hN : (N + 1) * 24 ≤ 140737488355328) (hk : o.kind = 6) :
    Calls Tryd.prog 10 #[.pointer (some ⟨p, 0, none⟩), .agg o.cells] w fun e w' => e = .returned (.bool true) ∧ Ok w' B p (N + 1) ∧ Below B w w' := by
  obtain ⟨wa, hwa⟩ : ∃ wa, wa = w.alloc (.cells o.cells 45) := ⟨_, rfl⟩
  have hb0 : Below w.heap.size w wa := by rw [hwa]; exact (Below.refl _ _).alloc (Nat.le_refl _) _
  have hsa : w.heap.size < wa.heap.size := by rw [hwa]; simp
  have q := Stp.at (w := w) o
  rw [← hwa] at q
  have q0 : ∀ u : Beh wa, u.wd.cell? ⟨w.heap.size, 0, none⟩ = some (.int .i64 6) := fun u => (q u 0 (by omega)).trans (by rw [← hk]; rfl)
  have HO := hid h
  have HF := hid hf
  have HNN := hid hN
  have HB0 := hid hb0
  have HSA := hid hsa
  have hlw := h.lt
  clear q hf h hN hb0 hsa
  unfold Stp.cells at hwa ⊢
  have HWA := hid hwa
  obtain ⟨u0, hu0⟩ : ∃ u0 : Beh wa, u0.wd = wa := ⟨⟨wa, Below.refl _ _⟩, rfl⟩
  have HU0 := hid hu0
  clear hwa hu0
  rw [hk] at HWA ⊢
  go_enter Tryd.func10, Tryd.ntmps10
  go_wp2_with fail
  rw [← HWA.out, ← HU0.out]
  have hbw0 := HB0.out.trans (u0.ok.mono HB0.out.size)
  have HOK := hid (HO.out.below hbw0)
  have HBW := hid (hbw0.mono hlw)
  clear hbw0
  go_wp2_with fail
  refine (mergesO_any HOK.out HNN.out).mono ?_
  rintro e w3 ⟨rfl, hO3, hb3⟩
  go_wp2_with fail
  go_ret
  exact ⟨rfl, hO3, HBW.out.trans hb3⟩

set_option maxHeartbeats 4000000 in
theorem plays_none {w : World} {B p N : Nat} (o : Stp) (D : List (Nat × Int)) (h : Ok w B p N) (hf : Fit w o D) (hN : (N + 1) * 24 ≤ 140737488355328) (hk : o.kind ≠ 1 ∧ o.kind ≠ 2 ∧ o.kind ≠ 3 ∧ o.kind ≠ 4 ∧ o.kind ≠ 5 ∧ o.kind ≠ 6) :
    Calls Tryd.prog 10 #[.pointer (some ⟨p, 0, none⟩), .agg o.cells] w fun e w' => e = .returned (.bool true) ∧ Ok w' B p (N + 1) ∧ Below B w w' := by
  obtain ⟨wa, hwa⟩ : ∃ wa, wa = w.alloc (.cells o.cells 45) := ⟨_, rfl⟩
  have hb0 : Below w.heap.size w wa := by rw [hwa]; exact (Below.refl _ _).alloc (Nat.le_refl _) _
  have hsa : w.heap.size < wa.heap.size := by rw [hwa]; simp
  have q := Stp.at (w := w) o
  rw [← hwa] at q
  have q0 : ∀ u : Beh wa, u.wd.cell? ⟨w.heap.size, 0, none⟩ = some (.int .i64 o.kind) := fun u => q u 0 (by omega)
  have HO := hid h
  have HF := hid hf
  have HNN := hid hN
  have HB0 := hid hb0
  have HSA := hid hsa
  have hlw := h.lt
  clear q hf h hN hb0 hsa
  unfold Stp.cells at hwa ⊢
  have HWA := hid hwa
  obtain ⟨u0, hu0⟩ : ∃ u0 : Beh wa, u0.wd = wa := ⟨⟨wa, Below.refl _ _⟩, rfl⟩
  have HU0 := hid hu0
  clear hwa hu0
  obtain ⟨n1, n2, n3, n4, n5, n6⟩ := hk
  have e1 : (o.kind == 1) = false := by simp [n1]
  have e2 : (o.kind == 2) = false := by simp [n2]
  have e3 : (o.kind == 3) = false := by simp [n3]
  have e4 : (o.kind == 4) = false := by simp [n4]
  have e5 : (o.kind == 5) = false := by simp [n5]
  have e6 : (o.kind == 6) = false := by simp [n6]
  go_enter Tryd.func10, Tryd.ntmps10
  go_wp2_with fail
  rw [← HWA.out, ← HU0.out]
  go_wp2_with fail
  go_ret
  have hb1 := HB0.out.trans (u0.ok.mono HB0.out.size)
  exact ⟨rfl, (HO.out.below hb1).mono (Nat.le_succ _), hb1.mono hlw⟩
end Go.Proofs.YtenhofbhkchjoabDoor.Mg
