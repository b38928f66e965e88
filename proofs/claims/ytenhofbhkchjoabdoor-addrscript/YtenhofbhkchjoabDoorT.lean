import Derived.Test.YtenhofbhkchjoabDoorR
namespace Go.Proofs.YtenhofbhkchjoabDoor
open Go.ChangeShapes Go.WideShapes Go.ChangeAt Go.RowKit
set_option maxHeartbeats 400000

theorem ansFP_shape (x : Nat) (n : Int) : ∃ (s : ByteArray) (e : Int), ansFP x n = .tuple #[.string s, .int .i64 e] := by
  unfold ansFP
  split
  · exact ⟨_, _, rfl⟩
  · exact ⟨_, _, rfl⟩

theorem ansS_shape (x : Nat) (n : Int) : ∃ a b e : Int, ansS x n = .tuple #[.int .u32 a, .int .u32 b, .int .i64 e] := by
  unfold ansS
  split
  · exact ⟨_, _, _, rfl⟩
  · exact ⟨_, _, _, rfl⟩

/-- What the calls are asked about: an address, a prefix, a hardware address. -/
structure Itm where
  a : Nat
  x : Nat
  n : Int
  m : Nat → Nat
  ha : a < 4294967296
  hx : x < 4294967296
  hm : ∀ k, k < 6 → m k < 256

def Itm.cells (I : Itm) : Array Value := #[.int .u32 I.a, .int .u32 I.x, .int .i64 I.n, .int .u8 (I.m 0), .int .u8 (I.m 1), .int .u8 (I.m 2), .int .u8 (I.m 3), .int .u8 (I.m 4), .int .u8 (I.m 5)]

theorem Itm.at {w : World} {b : Nat} {T : TypeId} (I : Itm) (h : w.heap[b]? = some (.cells I.cells T (0, 0))) :
    ∀ u : Beh w, u.wd.cell? ⟨b, 0, none⟩ = some (.int .u32 I.a) ∧ u.wd.cell? ⟨b, 1, none⟩ = some (.int .u32 I.x) ∧ u.wd.cell? ⟨b, 2, none⟩ = some (.int .i64 I.n) ∧
      u.wd.cell? ⟨b, 3, none⟩ = some (.int .u8 (I.m 0)) ∧ u.wd.cell? ⟨b, 4, none⟩ = some (.int .u8 (I.m 1)) ∧ u.wd.cell? ⟨b, 5, none⟩ = some (.int .u8 (I.m 2)) ∧
      u.wd.cell? ⟨b, 6, none⟩ = some (.int .u8 (I.m 3)) ∧ u.wd.cell? ⟨b, 7, none⟩ = some (.int .u8 (I.m 4)) ∧ u.wd.cell? ⟨b, 8, none⟩ = some (.int .u8 (I.m 5)) := by
  intro u
  have hlt : b < w.heap.size := (Array.getElem?_eq_some_iff.1 h).1
  have r := (u.ok.block b hlt).trans h
  refine ⟨?_, ?_, ?_, ?_, ?_, ?_, ?_, ?_, ?_⟩ <;> (rw [cell_of_row _ _ _ _ _ _ r]; rfl)

set_option maxHeartbeats 2000000 in
set_option maxRecDepth 100000 in
theorem formats_any (I : Itm) (w : World) (ht : Tab w) :
    Calls Tryd.prog 8 #[.agg I.cells] w fun e w' => e = .returned (.bool true) ∧ Below w.heap.size w w' := by
  obtain ⟨wa, hwa⟩ : ∃ wa, wa = w.alloc (.cells I.cells 35) := ⟨_, rfl⟩
  have hb0 : Below w.heap.size w wa := by rw [hwa]; exact (Below.refl _ _).alloc (Nat.le_refl _) _
  have hr : wa.heap[w.heap.size]? = some (.cells I.cells 35) := by rw [hwa]; exact heap_alloc_new w _
  have q := I.at hr
  have q0 := fun u => (q u).1
  have q1 := fun u => (q u).2.1
  have q2 := fun u => (q u).2.2.1
  have q3 := fun u => (q u).2.2.2.1
  have q4 := fun u => (q u).2.2.2.2.1
  have q5 := fun u => (q u).2.2.2.2.2.1
  have q6 := fun u => (q u).2.2.2.2.2.2.1
  have q7 := fun u => (q u).2.2.2.2.2.2.2.1
  have q8 := fun u => (q u).2.2.2.2.2.2.2.2
  have HT : Hid (∀ u : Beh wa, Tab u.wd) := fun u => ht.below (hb0.trans (u.ok.mono hb0.size))
  have HF1 : Hid (∀ u : Beh wa, Calls Tryd.prog 18 #[.int .u32 (I.a : Int)] u.wd fun e w' => e = .returned (.string (fmtA I.a)) ∧ ∃ u' : Beh wa, w' = u'.wd) := fun u => Calls.beh (format_any I.a I.ha _ (HT.out u))
  have HF2 : Hid (∀ u : Beh wa, Calls Tryd.prog 19 #[.int .u32 (I.a : Int)] u.wd fun e w' => e = .returned (.string (fmtA I.a)) ∧ ∃ u' : Beh wa, w' = u'.wd) := fun u => Calls.beh (refFormat_any I.a I.ha _ (HT.out u))
  have HF3 : Hid (∀ u : Beh wa, Calls Tryd.prog 20 #[.agg #[.int .u32 (I.x : Int), .int .i64 I.n]] u.wd fun e w' => e = .returned (ansFP I.x I.n) ∧ ∃ u' : Beh wa, w' = u'.wd) := fun u => Calls.beh (formatPrefix_any I.x I.n I.hx _ (HT.out u))
  have HF4 : Hid (∀ u : Beh wa, Calls Tryd.prog 21 #[.agg #[.int .u32 (I.x : Int), .int .i64 I.n]] u.wd fun e w' => e = .returned (ansFP I.x I.n) ∧ ∃ u' : Beh wa, w' = u'.wd) := fun u => Calls.beh (refFormatPrefix_any I.x I.n I.hx _ (HT.out u))
  have HF5 : Hid (∀ u : Beh wa, Calls Tryd.prog 22 #[.agg #[.int .u8 (I.m 0), .int .u8 (I.m 1), .int .u8 (I.m 2), .int .u8 (I.m 3), .int .u8 (I.m 4), .int .u8 (I.m 5)]] u.wd fun e w' => e = .returned (.string ⟨(mac I.m 6).toArray⟩) ∧ ∃ u' : Beh wa, w' = u'.wd) := fun u => Calls.beh (formatMAC_any _ _ _ _ _ _ I.m I.hm rfl rfl rfl rfl rfl rfl _)
  have HF6 : Hid (∀ u : Beh wa, Calls Tryd.prog 23 #[.agg #[.int .u8 (I.m 0), .int .u8 (I.m 1), .int .u8 (I.m 2), .int .u8 (I.m 3), .int .u8 (I.m 4), .int .u8 (I.m 5)]] u.wd fun e w' => e = .returned (.string ⟨(mac I.m 6).toArray⟩) ∧ ∃ u' : Beh wa, w' = u'.wd) := fun u => Calls.beh (refFormatMAC_any _ _ _ _ _ _ I.m I.hm rfl rfl rfl rfl rfl rfl _)
  obtain ⟨s2, e2, hs2⟩ := ansFP_shape I.x I.n
  rw [hs2] at HF3 HF4
  unfold Itm.cells at hwa ⊢
  have HWA := hid hwa
  clear hwa q hr ht hs2
  generalize fmtA I.a = s1 at HF1 HF2
  generalize (⟨(mac I.m 6).toArray⟩ : ByteArray) = s3 at HF5 HF6
  generalize I.a = a at *
  generalize I.x = x at *
  generalize I.n = n at *
  generalize I.m 0 = m0 at *
  generalize I.m 1 = m1 at *
  generalize I.m 2 = m2 at *
  generalize I.m 3 = m3 at *
  generalize I.m 4 = m4 at *
  generalize I.m 5 = m5 at *
  obtain ⟨u0, hu0⟩ : ∃ u0 : Beh wa, u0.wd = wa := ⟨⟨wa, Below.refl _ _⟩, rfl⟩
  have HU0 := hid hu0
  clear hu0
  go_enter Tryd.func8, Tryd.ntmps8
  go_wp2_with fail
  rw [← HWA.out, ← HU0.out]
  go_wp2_with fail
  refine (HF1.out u0).mono ?_
  rintro _ _ ⟨rfl, u1, rfl⟩
  go_wp2_with fail
  refine (HF2.out u1).mono ?_
  rintro _ _ ⟨rfl, u2, rfl⟩
  go_wp2_with fail
  refine (HF3.out u2).mono ?_
  rintro _ _ ⟨rfl, u3, rfl⟩
  go_wp2_with fail
  refine (HF4.out u3).mono ?_
  rintro _ _ ⟨rfl, u4, rfl⟩
  go_wp2_with fail
  refine (HF5.out u4).mono ?_
  rintro _ _ ⟨rfl, u5, rfl⟩
  go_wp2_with fail
  refine (HF6.out u5).mono ?_
  rintro _ _ ⟨rfl, u6, rfl⟩
  go_wp2_with fail
  go_ret
  exact ⟨rfl, hb0.trans (u6.ok.mono hb0.size)⟩
end Go.Proofs.YtenhofbhkchjoabDoor
