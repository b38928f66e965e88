import Derived.Test.YtjjmopmdiflffabZC
namespace Go.Proofs.Ytjjmopmdiflffab
open Go.ChangeShapes Go.WideShapes Go.ChangeAt Go.RowKit
set_option maxHeartbeats 1000000
set_option maxRecDepth 100000

theorem zeros_any (h : Hd) (vo vb : Value) (B : List Nat) (w : World) (hok : h.Ok) (hvo : SeesB w vo h.opts) (hvb : SeesB w vb B) (hlo : h.opts.length ≤ 140737488355328) (hlb : B.length ≤ 140737488355328) :
    Calls Try.prog 13 #[.agg (pkCells h vo vb)] w fun e w' => e = .returned (.bool true) ∧ Below w.heap.size w w' := by
  by_cases he : refE h B.length = 0
  · exact zeros_good h vo vb B w hok hvo hvb he
  · exact zeros_bad h vo vb B w hok hvo hvb hlo hlb he

theorem twoZeros_walk (h : Hd) (vo vb : Value) (B : List Nat) (w : World) (hok : h.Ok) (hvo : SeesB w vo h.opts) (hvb : SeesB w vb B) (hlo : h.opts.length ≤ 140737488355328) (hlb : B.length ≤ 140737488355328) :
    Calls Try.prog 5 #[.agg (pkCells h vo vb)] w fun e w' => e = .returned (.bool true) ∧ Below w.heap.size w w' := by
  obtain ⟨w1, hw1⟩ : ∃ w1, w1 = w.alloc (.cells (pkCells h vo vb) 29) := ⟨_, rfl⟩
  have hb1 : Below w.heap.size w w1 := by rw [hw1]; exact (Below.refl _ _).alloc (Nat.le_refl _) _
  have hs1 : w1.heap.size = w.heap.size + 1 := by rw [hw1]; simp
  have HLK : Hid (∀ u, Below w1.heap.size w1 u → (Instr.loadAt 29 (.pointer (some ⟨w.heap.size, 0, none⟩))).run Try.prog u = .ok (.agg (pkCells h vo vb)) u) := fun u hu => pk_load (by rw [hu.block _ (by omega), hw1]; exact heap_alloc_new w _)
  have HSM1 := hid (small_any w1)
  have HBW : Hid (∀ u, Below w1.heap.size w1 u → Below w.heap.size w u) := fun u hu => hb1.trans (hu.mono hb1.size)
  have HCUP : Hid (∀ (u : World), Below w1.heap.size w1 u → Calls Try.prog 13 #[.agg (pkCells h vo vb)] u fun e w' => e = .returned (.bool true) ∧ Below u.heap.size u w') := fun u hu =>
    zeros_any h vo vb B u hok (hvo.below (HBW.out _ hu)) (hvb.below (HBW.out _ hu)) hlo hlb
  have HCUT : Hid (∀ (u : World) (va xa : Value), SeesB u va smH.opts → SeesB u xa [1, 2, 3] → Calls Try.prog 13 #[.agg (pkCells smH va xa)] u fun e w' => e = .returned (.bool true) ∧ Below u.heap.size u w') := fun u va xa h1 h2 =>
    zeros_good smH va xa [1, 2, 3] u smH_ok h1 h2 sm_ref
  have HBLD : Hid (∀ (u : World) (va xa : Value), SeesB u va smH.opts → SeesB u xa [1, 2, 3] → Calls Try.prog 9 #[.agg (pkCells smH va xa)] u fun e w' => ∃ ao n cap, e = .returned (.tuple #[.slice ao n cap, .int .i64 0]) ∧ Below u.heap.size u w') := fun u va xa h1 h2 => by
    have := build_code smH va xa [1, 2, 3] u smH_ok h1 h2 (by decide) (by decide)
    rw [sm_ref] at this
    refine this.mono ?_
    rintro e w' ⟨ao, n, cap, rfl, _, hb⟩
    exact ⟨ao, n, cap, rfl, hb⟩
  have HW1 := hid hw1
  generalize pkCells h vo vb = pk at *
  clear hw1 hb1 hs1 hvo hvb hlo hlb hok
  go_enter Try.func5, Try.ntmps5
  go_upto_region 1 with fail
  rw [← HW1.out]
  go_wp2_with fail
  refine HSM1.out.mono ?_
  rintro _ w2 ⟨va, xa, rfl, ha, ka, hb2⟩
  have HBD := hid (HBLD.out w2 va xa ha ka)
  generalize pkCells smH va xa = p2 at *
  have HB2 := hid hb2
  clear ha ka hb2
  go_wp2_with fail
  refine HBD.out.mono ?_
  rintro _ w3 ⟨a3, n3, c3, rfl, hb3⟩
  have hb13 := HB2.out.trans (hb3.mono HB2.out.size)
  have HSM3 := hid (small_any w3)
  have HB13 := hid hb13
  clear hb3 hb13
  go_wp2_with fail
  refine HSM3.out.mono ?_
  rintro _ w4 ⟨vb4, xb4, rfl, h4, k4, hb4⟩
  have HCT := hid (HCUT.out w4 vb4 xb4 h4 k4)
  generalize pkCells smH vb4 xb4 = p4 at *
  have hb14 := HB13.out.trans (hb4.mono HB13.out.size)
  have HB14 := hid hb14
  clear h4 k4 hb4 hb14
  go_wp2_with fail
  refine HCT.out.mono ?_
  rintro _ w7 ⟨rfl, hb7⟩
  have hb17 := HB14.out.trans (hb7.mono HB14.out.size)
  have HL7 := hid (HLK.out _ hb17)
  have HC7 := hid (HCUP.out w7 hb17)
  have HB17 := hid hb17
  clear hb7 hb17
  go_wp2_with (first | (refine wpList_ld 29 ⟨w.heap.size, 0, none⟩ (.tmp 1) rfl rfl HL7.out rfl ?_) | fail)
  refine HC7.out.mono ?_
  rintro _ w8 ⟨rfl, hb8⟩
  go_wp2_with fail
  go_ret
  exact ⟨rfl, HBW.out _ (HB17.out.trans (hb8.mono HB17.out.size))⟩
end Go.Proofs.Ytjjmopmdiflffab
