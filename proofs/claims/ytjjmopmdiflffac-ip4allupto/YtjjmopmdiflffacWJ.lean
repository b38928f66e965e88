import Derived.Test.YtjjmopmdiflffacWI
import Derived.Test.YtjjmopmdiflffacWG
namespace Go.Proofs.Ytjjmopmdiflffac
open Go.ChangeShapes Go.WideShapes Go.ChangeAt Go.RowKit
set_option maxHeartbeats 1000000
set_option maxRecDepth 100000

set_option maxHeartbeats 2000000 in
theorem plays_peek (vy vp : Value) (L : List Nat) (x y z : Nat) (h : Hd) (vo vb : Value) (w : World) (hv : SeesB w vy L) (hl : L.length ≤ 140737488355328) :
    Calls Try.prog 16 #[.agg (opL 4 vy vp x y z h vo vb).toArray] w fun e w' => e = .returned (.bool true) ∧ Below w.heap.size w w' := by
  obtain ⟨w1, hw1⟩ : ∃ w1, w1 = w.alloc (.cells (opL 4 vy vp x y z h vo vb).toArray 45) := ⟨_, rfl⟩
  have hb1 : Below w.heap.size w w1 := by rw [hw1]; exact (Below.refl _ _).alloc (Nat.le_refl _) _
  have hs1 : w1.heap.size = w.heap.size + 1 := by rw [hw1]; simp
  have HC : Hid (∀ u, Below w1.heap.size w1 u → u.cell? ⟨w.heap.size, 1, none⟩ = some vy) := fun u hu =>
    blk_at (cs := opL 4 vy vp x y z h vo vb) (t := 45) (by rw [hu.block w.heap.size (by omega), hw1]; exact blk_new _ _ _) 1 vy rfl
  have HP1 := hid (read_false vy L w1 (hv.below hb1) hl)
  have HP2 : Hid (∀ u, Below w1.heap.size w1 u → Calls Try.prog 28 #[vy] u fun e w' => ∃ vo vb, e = .returned (.tuple #[.agg (hdCells (readL L false).1 vo), vb, .int .i64 (readL L false).2.2]) ∧ SeesB w' vo (readL L false).1.opts ∧ SeesB w' vb (readL L false).2.1 ∧ Below u.heap.size u w') := fun u hu => peek_ref vy L u (hv.below (hb1.trans (hu.mono hb1.size))) hl
  obtain ⟨ao, n, cap, rfl, _, _, _⟩ := hv.shape
  have HW1 : Hid (w1 = w.alloc (.cells (opL 4 (.slice ao n cap) vp x y z h vo vb).toArray 45)) := hw1
  have HB1 := hid hb1
  have c1 := HC.out _ (Below.refl _ _)
  clear hw1 hb1 hs1 hv hl
  generalize readL L false = t at *
  obtain ⟨H, B, q⟩ := t
  simp only at *
  have hqq : (q == q) = true := by simp
  unfold opL at HW1 ⊢
  go_enter Try.func16, Try.ntmps16
  go_upto_region 10 with fail
  rw [← HW1.out]
  go_wp2_with fail
  refine HP1.out.mono ?_
  rintro _ w2 ⟨va, xa, rfl, ha, ka, hb2⟩
  obtain ⟨a1, n1, c1', rfl, _, _, _⟩ := ha.shape
  obtain ⟨a2, n2, c2, rfl, _, _, _⟩ := ka.shape
  obtain ⟨pa, hpa⟩ : ∃ pa : Array Value, pa = hdCells H (.slice a1 n1 c1') := ⟨_, rfl⟩
  have HPA := hid hpa
  have hpz : pa.size = Z27c.size := by rw [hpa]; rfl
  have HZA : Hid ((Try.prog.info? 30).map (·.size) = some pa.size) := by unfold Hid; rw [hpa]; exact size27
  have HTA := hid (new_there (u := w2) (T := 30) hpz)
  have HOA : Hid (pa.all (·.oneCell') = true) := by unfold Hid; rw [hpa]; exact hd_one _ _ _ _
  have HNA := new_put (u := w2) (T := 30) hpz
  obtain ⟨w3, hw3⟩ : ∃ w3, w3 = (w2.alloc (.cells Z27c 30)).setCells w2.heap.size 0 pa.toList := ⟨_, rfl⟩
  rw [← hw3] at HNA
  have HW3 : Hid (w3 = (w2.alloc (.cells #[.int .u8 0, .int .u16 0, .bool false, .bool false, .int .i64 0, .int .u8 0, .int .u8 0, .int .u32 0, .int .u32 0, .slice none 0 0] 30)).setCells w2.heap.size 0 pa.toList) := hw3
  have hb3 : Below w1.heap.size w1 w3 := hb2.trans (HNA.below.mono hb2.size)
  have HA := hid (ha.below HNA.below)
  have HKA := hid (ka.below HNA.below)
  have HNA := hid HNA
  have c3 := HC.out _ hb3
  rw [← hpa]
  clear hpa hpz hw3 ha ka hb2 HP1 c1
  go_upto_region 11 with (first
    | (refine wpList_store_mid rfl 30 (.tmp 7) (.tmp 60) rfl w2.heap.size 0 pa rfl rfl HTA.out HZA.out HOA.out ?_)
    | fail)
  rw [← HW3.out]
  go_wp2_with fail
  refine (HP2.out _ hb3).mono ?_
  rintro _ w4 ⟨vb', xb, rfl, hb', kb, hb4⟩
  obtain ⟨a3, n3, c3', rfl, _, _, _⟩ := hb'.shape
  obtain ⟨a4, n4, c4, rfl, _, _, _⟩ := kb.shape
  obtain ⟨pb, hpb⟩ : ∃ pb : Array Value, pb = hdCells H (.slice a3 n3 c3') := ⟨_, rfl⟩
  have HPB := hid hpb
  have hpz : pb.size = Z27c.size := by rw [hpb]; rfl
  have HZB : Hid ((Try.prog.info? 30).map (·.size) = some pb.size) := by unfold Hid; rw [hpb]; exact size27
  have HTB := hid (new_there (u := w4) (T := 30) hpz)
  have HOB : Hid (pb.all (·.oneCell') = true) := by unfold Hid; rw [hpb]; exact hd_one _ _ _ _
  have HNB := new_put (u := w4) (T := 30) hpz
  obtain ⟨w5, hw5⟩ : ∃ w5, w5 = (w4.alloc (.cells Z27c 30)).setCells w4.heap.size 0 pb.toList := ⟨_, rfl⟩
  rw [← hw5] at HNB
  have HW5 : Hid (w5 = (w4.alloc (.cells #[.int .u8 0, .int .u16 0, .bool false, .bool false, .int .i64 0, .int .u8 0, .int .u8 0, .int .u32 0, .int .u32 0, .slice none 0 0] 30)).setCells w4.heap.size 0 pb.toList) := hw5
  have hb35 : Below w3.heap.size w3 w5 := hb4.trans (HNB.below.mono hb4.size)
  have hb5 : Below w1.heap.size w1 w5 := hb3.trans (hb35.mono hb3.size)
  have HLA := hid (load_range (range_grow HNA.out.range hb35 HNA.out.lt) und27 HZA.out)
  have HLB := hid (load_range HNB.range und27 HZB.out)
  have HHD : Hid (Calls Try.prog 24 #[.agg pa, .agg pb] w5 fun e w' => e = .returned (.bool true) ∧ Below w5.heap.size w5 w') := by
    unfold Hid
    rw [HPA.out, HPB.out]
    exact heads_same H _ _ w5 (HA.out.below hb35) (hb'.below HNB.below)
  have HSM : Hid (∀ u, Below w5.heap.size w5 u → Calls Try.prog 15 #[.slice a2 n2 c2, .slice a4 n4 c4] u fun e w' => e = .returned (.bool true) ∧ Below u.heap.size u w') := fun u hu => by
    have := same_any (.slice a2 n2 c2) (.slice a4 n4 c4) B B u ((HKA.out.below hb35).below hu) ((kb.below HNB.below).below hu)
    rw [decide_eq_true (rfl : B = B)] at this
    exact this
  have HB5 := hid hb5
  rw [← hpb]
  clear hpb hpz hw5 hb' kb hb4 hb35 hb5 HNB HP2 c3
  go_upto_region 12 with (first
    | (refine wpList_store_mid rfl 30 (.tmp 10) (.tmp 67) rfl w4.heap.size 0 pb rfl rfl HTB.out HZB.out HOB.out ?_)
    | fail)
  rw [← HW5.out]
  go_wp2_with (first
    | (refine wpList_ld 30 ⟨w2.heap.size, 0, none⟩ (.tmp 7) rfl rfl HLA.out rfl ?_)
    | (refine wpList_ld 30 ⟨w4.heap.size, 0, none⟩ (.tmp 10) rfl rfl HLB.out rfl ?_)
    | fail)
  refine HHD.out.mono ?_
  rintro _ w6 ⟨rfl, hb6⟩
  go_wp2_with fail
  refine (HSM.out _ hb6).mono ?_
  rintro _ w7 ⟨rfl, hb7⟩
  go_wp2_with fail
  go_ret
  have hb67 := hb6.trans (hb7.mono hb6.size)
  exact ⟨rfl, HB1.out.trans ((HB5.out.trans (hb67.mono HB5.out.size)).mono HB1.out.size)⟩

theorem head_peek (w : World) :
    Calls Try.prog 10 #[.int .i64 4] w fun e w' => e = .returned (.bool true) ∧ Below w.heap.size w w' := by
  have HS := hid (small_build w)
  have HB := hid (smallW_below w)
  have HP : Hid (∀ (u : World) (v : Value), SeesB u v (builtL smallH [1, 2, 3]) → Calls Try.prog 16 #[.agg #[.int .i64 4, v, .slice none 0 0, .int .u16 0, .int .u16 0, .int .u16 0, .int .u8 0, .int .u16 0, .bool false, .bool false, .int .i64 0, .int .u8 0, .int .u8 0, .int .u32 0, .int .u32 0, .slice none 0 0, .slice none 0 0]] u fun e w' => e = .returned (.bool true) ∧ Below u.heap.size u w') :=
    fun u v hv => plays_peek v (.slice none 0 0) _ 0 0 0 zeroHd (.slice none 0 0) (.slice none 0 0) u hv small_len
  unfold smallW smallC at *
  go_enter Try.func10, Try.ntmps10
  go_wp2_with fail
  refine HS.out.mono ?_
  rintro _ w2 ⟨ao, n, cap, rfl, hs, hb2⟩
  have hb3 := HB.out.trans (hb2.mono HB.out.size)
  have HSS := hid hs
  clear hs hb2
  go_wp2_with fail
  refine (HP.out _ _ HSS.out).mono ?_
  rintro _ w3 ⟨rfl, hb4⟩
  go_wp2_with fail
  go_ret
  exact ⟨rfl, hb3.trans (hb4.mono hb3.size)⟩
end Go.Proofs.Ytjjmopmdiflffac
