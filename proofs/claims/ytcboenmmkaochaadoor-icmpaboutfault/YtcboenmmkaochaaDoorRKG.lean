/-
  IcmpAboutFault: the walk.
-/
import Derived.Test.YtcboenmmkaochaaDoorM5
import Derived.Test.YtcboenmmkaochaaDoorRKF
namespace Go.Proofs.YtcboenmmkaochaaDoor.N
open Go.ChangeShapes Go.WideShapes Go.ChangeAt Go.RowKit
set_option maxHeartbeats 8000000
set_option maxRecDepth 100000

theorem icmpAboutFault_walk (h : Hd) (vo vb : Value) (B : List Nat) (t c : Nat) (a : Int) (f : Nat) (w : World) (hok : h.Ok) (hvo : SeesB w vo h.opts) (hvb : SeesB w vb B) (hlo : h.opts.length ≤ 140737488355328) (hlb : B.length ≤ 140737488355328) (ht : t < 256) (hc : c < 256) (hf : f < 4294967296) (htC : Ad.TabC w) (htK : TabK w) :
    Calls Tryd.prog 5 #[.agg (pkCells h vo vb), .int .u8 (t : Int), .int .u8 (c : Int), .int .i64 a, .int .u32 (f : Int)] w fun e w' => e = .returned (.bool true) ∧ Below w.heap.size w w' := by
  obtain ⟨w1, hw1⟩ : ∃ w1, w1 = w.alloc (.cells (pkCells h vo vb) 29) := ⟨_, rfl⟩
  have hb1 : Below w.heap.size w w1 := by rw [hw1]; exact (Below.refl _ _).alloc (Nat.le_refl _) _
  have hs1 : w1.heap.size = w.heap.size + 1 := by rw [hw1]; simp
  have HLD : Hid (∀ u, Below w1.heap.size w1 u → (Instr.loadAt 29 (.pointer (some ⟨w.heap.size, 0, none⟩))).run Tryd.prog u = .ok (.agg (pkCells h vo vb)) u) := fun u hu => pk_load (t := 29) (by rw [hu.block _ (by omega), hw1]; exact heap_alloc_new w _)
  have HSM : Hid (∀ u, Calls Tryd.prog 8 #[] u fun e w' => ∃ v1 v2, e = .returned (.agg (pkCells small6 v1 v2)) ∧ SeesB w' v1 small6.opts ∧ SeesB w' v2 body6 ∧ Below u.heap.size u w') := fun u => (small_any u).mono fun e w' ⟨a1, n1, c1, a2, n2, c2, he, h1, h2, _, hb⟩ => ⟨_, _, he, h1, h2, hb⟩
  have HFT : Hid (∀ (u : World) (v1 v2 : Value), Below w1.heap.size w1 u → SeesB u v1 small6.opts → SeesB u v2 body6 → Calls Tryd.prog 9 #[.agg (pkCells small6 v1 v2), .int .u8 3, .int .u8 4, .int .i64 1400, .int .u32 167838209] u fun e w' => ∃ a2 n2 c2, e = .returned (.tuple #[.agg (pkCells (fltP small6 body6 3 4 1400 167838209).1 (.slice none 0 0) (.slice a2 n2 c2)), .int .i64 0]) ∧ SeesB w' (.slice a2 n2 c2) (fltP small6 body6 3 4 1400 167838209).2 ∧ Below u.heap.size u w') := fun u v1 v2 hu h1 h2 =>
    (fault_any small6 v1 v2 body6 3 4 1400 167838209 u small6_ok h1 h2 (by decide) (by decide) (by decide) (by decide) (by decide) ((htC.below hb1).below hu) ((htK.below hb1).below hu)).mono fun e w' ⟨a2, n2, c2, he, hs, _, hb⟩ => ⟨a2, n2, c2, by rw [he, small6_flt (by decide)], hs, hb⟩
  have HS1 : Hid (∀ (u : World) (v1 v2 : Value), Below w1.heap.size w1 u → SeesB u v1 small6.opts → SeesB u v2 body6 → Calls Tryd.prog 11 #[.agg (pkCells small6 v1 v2), .int .u8 3, .int .u8 4, .int .i64 1400, .int .u32 167838209] u fun e w' => e = .returned (.bool true) ∧ Below u.heap.size u w') := fun u v1 v2 hu h1 h2 =>
    aboutL_any small6 v1 v2 body6 3 4 1400 167838209 u small6_ok h1 h2 (by decide) (by decide) (by decide) (by decide) (by decide) ((htC.below hb1).below hu) ((htK.below hb1).below hu)
  have HS2 : Hid (∀ u, Below w1.heap.size w1 u → Calls Tryd.prog 11 #[.agg (pkCells h vo vb), .int .u8 (t : Int), .int .u8 (c : Int), .int .i64 a, .int .u32 (f : Int)] u fun e w' => e = .returned (.bool true) ∧ Below u.heap.size u w') := fun u hu =>
    aboutL_any h vo vb B t c a f u hok (hvo.below (hb1.trans (hu.mono hb1.size))) (hvb.below (hb1.trans (hu.mono hb1.size))) hlo hlb ht hc hf ((htC.below hb1).below hu) ((htK.below hb1).below hu)
  have HW1 := hid hw1
  have HB1 := hid hb1
  clear hw1 hb1 hs1 hvo hvb hok hlo hlb htC htK
  generalize fltP small6 body6 3 4 1400 167838209 = AB at *
  obtain ⟨H, BD⟩ := AB
  simp only at *
  generalize pkCells h vo vb = pk at *
  go_enter Tryd.func5, Tryd.ntmps5
  go_upto_region 1 with fail
  rw [← HW1.out]
  go_wp2_with fail
  refine (HSM.out _).mono ?_
  rintro _ w2 ⟨v1, v2, rfl, ho, hbd, hb2⟩
  have HX := hid (HFT.out w2 _ _ hb2 ho hbd)
  generalize pkCells small6 v1 v2 = sk at *
  clear ho hbd
  go_wp2_with fail
  refine HX.out.mono ?_
  rintro _ w3 ⟨a3, n3, c3, rfl, hs3, hb3⟩
  obtain ⟨pb, hpb⟩ : ∃ pb : Array Value, pb = pkCells H (.slice none 0 0) (.slice a3 n3 c3) := ⟨_, rfl⟩
  have HZB : Hid ((Tryd.prog.info? 29).map (·.size) = some pb.size) := by unfold Hid; rw [hpb]; exact size_pk
  have HOB : Hid (pb.all (·.oneCell') = true) := by unfold Hid; rw [hpb]; exact pk_one _ (sees_nil w3) hs3
  have HTB6 : Hid ((w3.alloc (.cells zeroP 29)).there w3.heap.size 0 pb.size) := new_there (by rw [hpb]; rfl)
  obtain ⟨w4, hw4⟩ : ∃ w4, w4 = (w3.alloc (.cells zeroP 29)).setCells w3.heap.size 0 pb.toList := ⟨_, rfl⟩
  have hb13 := hb2.trans (hb3.mono hb2.size)
  have hb14 : Below w1.heap.size w1 w4 := by rw [hw4]; exact below_setCells hb13.size _ _ _ (hb13.alloc hb13.size _)
  have HB14 := hid hb14
  have HW4 : Hid (w4 = (w3.alloc (.cells #[.int .u8 0, .int .u16 0, .bool false, .bool false, .int .i64 0, .int .u8 0, .int .u8 0, .int .u32 0, .int .u32 0, .slice none 0 0, .slice none 0 0] 29)).setCells w3.heap.size 0 pb.toList) := hw4
  rw [← hpb]
  clear hpb hs3 hb3 hb2 hb13 hb14 hw4 HX HFT
  go_upto_region 2 with (first
    | (refine wpList_store_mid rfl 29 (.tmp 11) (.tmp 16) rfl w3.heap.size 0 pb rfl rfl HTB6.out HZB.out HOB.out ?_)
    | fail)
  rw [← HW4.out]
  go_wp2_with fail
  refine (HSM.out _).mono ?_
  rintro _ w5 ⟨v1', v2', rfl, ho, hbd, hb5⟩
  have hb15 := HB14.out.trans (hb5.mono HB14.out.size)
  have HX := hid (HS1.out w5 _ _ hb15 ho hbd)
  generalize pkCells small6 v1' v2' = sk2 at *
  clear ho hbd
  go_wp2_with fail
  refine HX.out.mono ?_
  rintro _ w6 ⟨rfl, hb6⟩
  have hb16 := hb15.trans (hb6.mono hb15.size)
  have HL6 := hid (HLD.out _ hb16)
  have HX2 := hid (HS2.out _ hb16)
  have HB16 := hid hb16
  clear hb5 hb6 hb15 hb16 HX HS1 HS2
  go_wp2_with (first | (refine wpList_ld 29 ⟨w.heap.size, 0, none⟩ (.tmp 5) rfl rfl HL6.out rfl ?_) | fail)
  refine HX2.out.mono ?_
  rintro _ w7 ⟨rfl, hb7⟩
  go_wp2_with fail
  go_ret
  exact ⟨rfl, HB1.out.trans ((HB16.out.trans (hb7.mono HB16.out.size)).mono HB1.out.size)⟩
end Go.Proofs.YtcboenmmkaochaaDoor.N
