import Derived.Test.YtjjmopmdiflffacWC
import Derived.Test.YtjjmopmdiflffacWE
import Derived.Test.YtjjmopmdiflffacK
namespace Go.Proofs.Ytjjmopmdiflffac
open Go.ChangeShapes Go.WideShapes Go.ChangeAt Go.RowKit
set_option maxHeartbeats 1000000
set_option maxRecDepth 100000

/-- The program's Parse. -/
theorem parse_code (v : Value) (L : List Nat) (w : World) (hv : SeesB w v L) (hl : L.length ≤ 140737488355328) :
    Calls Try.prog 13 #[v] w fun e w' => ∃ vo vb, e = .returned (.tuple #[.agg (pkCells (parsed L).1 vo vb), .int .i64 (parsed L).2.2]) ∧ SeesB w' vo (parsed L).1.opts ∧ SeesB w' vb (parsed L).2.1 ∧ Below w.heap.size w w' := by
  by_cases he : (exam L true).2.2 = 0
  · exact parse_good v L w hv hl he
  · exact parse_bad v L w hv hl he

/-- The reference's read, the whole packet. -/
theorem read_true (v : Value) (L : List Nat) (w : World) (hv : SeesB w v L) (hl : L.length ≤ 140737488355328) :
    Calls Try.prog 50 #[v, .bool true] w fun e w' => ∃ vo vb, e = .returned (.tuple #[.agg (pkCells (parsed L).1 vo vb), .int .i64 (parsed L).2.2]) ∧ SeesB w' vo (parsed L).1.opts ∧ SeesB w' vb (parsed L).2.1 ∧ (∀ a n c, vo = .slice (some a) n c → w.heap.size ≤ a.block) ∧ (∀ a n c, vb = .slice (some a) n c → w.heap.size ≤ a.block) ∧ Below w.heap.size w w' := by
  by_cases he : (exam L true).2.2 = 0
  · have := read_good v L true w hv hl he
    have hp : parsed L = (rdH (L.take (exam L true).2.1) (exam L true).1, (L.take (exam L true).2.1).drop (exam L true).1, 0) := by unfold parsed; rw [if_pos he]
    rw [hp]
    exact this
  · have hp : parsed L = (zeroH, [], (exam L true).2.2) := by unfold parsed; rw [if_neg he]
    rw [hp]
    refine (read_bad v L true w hv hl he).mono ?_
    rintro e w' ⟨rfl, hb⟩
    exact ⟨.slice none 0 0, .slice none 0 0, rfl, sees_nil _, sees_nil _, (fun _ _ _ h => by cases h), (fun _ _ _ h => by cases h), hb⟩

theorem parse_ref (v : Value) (L : List Nat) (w : World) (hv : SeesB w v L) (hl : L.length ≤ 140737488355328) :
    Calls Try.prog 26 #[v] w fun e w' => ∃ vo vb, e = .returned (.tuple #[.agg (pkCells (parsed L).1 vo vb), .int .i64 (parsed L).2.2]) ∧ SeesB w' vo (parsed L).1.opts ∧ SeesB w' vb (parsed L).2.1 ∧ Below w.heap.size w w' := by
  obtain ⟨w1, hw1⟩ : ∃ w1, w1 = w.alloc (.cells Z29 32) := ⟨_, rfl⟩
  have hb1 : Below w.heap.size w w1 := by rw [hw1]; exact (Below.refl _ _).alloc (Nat.le_refl _) _
  have hs1 : w1.heap.size = w.heap.size + 1 := by rw [hw1]; simp
  have HRD := hid (read_true v L w1 (hv.below hb1) hl)
  have HTH : Hid (∀ u, Below w1.heap.size w1 u → u.there w.heap.size 0 11) := fun u hu => by
    refine there_blk (C := Z29) (t := 32) ?_ rfl
    rw [hu.block _ (by omega), hw1]
    exact heap_alloc_new w _
  have HW1 : Hid (w1 = w.alloc (.cells #[.int .u8 0, .int .u16 0, .bool false, .bool false, .int .i64 0, .int .u8 0, .int .u8 0, .int .u32 0, .int .u32 0, .slice none 0 0, .slice none 0 0] 32)) := hw1
  have HB1 := hid hb1
  have HS1 := hid hs1
  obtain ⟨ao, n, cap, rfl, _, _, _⟩ := hv.shape
  clear hw1 hb1 hs1 hv
  generalize parsed L = t at *
  obtain ⟨h, B, z⟩ := t
  simp only at *
  go_enter Try.func26, Try.ntmps26
  go_upto_region 1 with fail
  rw [← HW1.out]
  go_wp2_with fail
  refine HRD.out.mono ?_
  rintro _ w2 ⟨vo, vb, rfl, hso, hsb, hko, hkb, hb2⟩
  have HTZ := hid (HTH.out _ hb2)
  obtain ⟨a1, n1, c1, rfl, _, _, _⟩ := hso.shape
  obtain ⟨a2, n2, c2, rfl, _, _, _⟩ := hsb.shape
  obtain ⟨zz, hzz⟩ : ∃ zz : Array Value, zz = pkCells h (.slice a1 n1 c1) (.slice a2 n2 c2) := ⟨_, rfl⟩
  have HZZ := hid hzz
  obtain ⟨fs, hu29⟩ := und29
  have HSZZ : Hid ((Try.prog.info? 32).map (·.size) = some zz.size) := by unfold Hid; rw [hzz]; exact size29'
  have HONE : Hid (zz.all (·.oneCell') = true) := by unfold Hid; rw [hzz]; simp [pkCells, Value.oneCell']
  have HTZ' : Hid (w2.there w.heap.size 0 zz.size) := by unfold Hid; rw [hzz]; exact HTZ.out
  have HLV : Hid ((loadVar 32 ⟨w.heap.size, 0, none⟩).run Try.prog (w2.setCells w.heap.size 0 zz.toList) = .ok (.agg zz) (w2.setCells w.heap.size 0 zz.toList)) := by
    have hrg := World.rangeAt_setCells_same w2 w.heap.size 0 zz.toList (by rw [Array.length_toList]; exact HTZ'.out)
    exact run_loadVar_mid _ w.heap.size 0 32 zz.toList (.struct fs) hrg hu29 rfl (by rw [Array.length_toList]; exact HSZZ.out)
  have HBF : Hid (Below w.heap.size w (w2.setCells w.heap.size 0 zz.toList)) := below_setCells' (Nat.le_refl _) _ _ _ (HB1.out.trans (hb2.mono HB1.out.size))
  have HSO : Hid (SeesB (w2.setCells w.heap.size 0 zz.toList) (.slice a1 n1 c1) h.opts) := sees_set' hso (fun x hx => by have := hko x n1 c1 (by rw [hx]); have := HS1.out; omega)
  have HSB : Hid (SeesB (w2.setCells w.heap.size 0 zz.toList) (.slice a2 n2 c2) B) := sees_set' hsb (fun x hx => by have := hkb x n2 c2 (by rw [hx]); have := HS1.out; omega)
  rw [← hzz]
  clear hzz hso hsb hko hkb hb2 hu29 HTH HTZ HRD
  go_wp2_with (first
    | (refine wpList_store_mid rfl 32 (.tmp 2) (.tmp 6) rfl w.heap.size 0 zz rfl rfl HTZ'.out HSZZ.out HONE.out ?_)
    | fail)
  generalize w2.setCells w.heap.size 0 zz.toList = wf at HLV HBF HSO HSB ⊢
  refine bodyPost_ret (v := .tuple #[.agg zz, .int .i64 z]) (by simp [results, Try.results26, asAddr, HLV.out]) rfl ?_
  exact ⟨.slice a1 n1 c1, .slice a2 n2 c2, by rw [HZZ.out], HSO.out, HSB.out, HBF.out⟩

set_option maxHeartbeats 2000000 in
theorem plays_parse (vy vp : Value) (L : List Nat) (x y z : Nat) (h : Hd) (vo vb : Value) (w : World) (hv : SeesB w vy L) (hl : L.length ≤ 140737488355328) :
    Calls Try.prog 16 #[.agg (opL 3 vy vp x y z h vo vb).toArray] w fun e w' => e = .returned (.bool true) ∧ Below w.heap.size w w' := by
  obtain ⟨w1, hw1⟩ : ∃ w1, w1 = w.alloc (.cells (opL 3 vy vp x y z h vo vb).toArray 45) := ⟨_, rfl⟩
  have hb1 : Below w.heap.size w w1 := by rw [hw1]; exact (Below.refl _ _).alloc (Nat.le_refl _) _
  have hs1 : w1.heap.size = w.heap.size + 1 := by rw [hw1]; simp
  have HC : Hid (∀ u, Below w1.heap.size w1 u → u.cell? ⟨w.heap.size, 1, none⟩ = some vy) := fun u hu =>
    blk_at (cs := opL 3 vy vp x y z h vo vb) (t := 45) (by rw [hu.block w.heap.size (by omega), hw1]; exact blk_new _ _ _) 1 vy rfl
  have HP1 := hid (parse_code vy L w1 (hv.below hb1) hl)
  have HP2 : Hid (∀ u, Below w1.heap.size w1 u → Calls Try.prog 26 #[vy] u fun e w' => ∃ vo vb, e = .returned (.tuple #[.agg (pkCells (parsed L).1 vo vb), .int .i64 (parsed L).2.2]) ∧ SeesB w' vo (parsed L).1.opts ∧ SeesB w' vb (parsed L).2.1 ∧ Below u.heap.size u w') := fun u hu => parse_ref vy L u (hv.below (hb1.trans (hu.mono hb1.size))) hl
  obtain ⟨ao, n, cap, rfl, _, _, _⟩ := hv.shape
  have HW1 : Hid (w1 = w.alloc (.cells (opL 3 (.slice ao n cap) vp x y z h vo vb).toArray 45)) := hw1
  have HB1 := hid hb1
  have c1 := HC.out _ (Below.refl _ _)
  clear hw1 hb1 hs1 hv hl
  generalize parsed L = t at *
  obtain ⟨H, B, q⟩ := t
  simp only at *
  have hqq : (q == q) = true := by simp
  unfold opL at HW1 ⊢
  go_enter Try.func16, Try.ntmps16
  go_upto_region 6 with fail
  rw [← HW1.out]
  go_wp2_with fail
  refine HP1.out.mono ?_
  rintro _ w2 ⟨va, xa, rfl, ha, ka, hb2⟩
  obtain ⟨pa, hpa⟩ : ∃ pa : Array Value, pa = pkCells H va xa := ⟨_, rfl⟩
  obtain ⟨w3, hw3⟩ : ∃ w3, w3 = (w2.alloc (.cells Z29 32)).setCells w2.heap.size 0 pa.toList := ⟨_, rfl⟩
  have HPA := hid hpa
  have HZA : Hid ((Try.prog.info? 32).map (·.size) = some pa.size) := by unfold Hid; rw [hpa]; exact size29'
  have HTA : Hid ((w2.alloc (.cells Z29 32)).there w2.heap.size 0 pa.size) := by unfold Hid; rw [hpa]; exact there_blk (C := Z29) (t := 32) (heap_alloc_new w2 _) rfl
  have HOA : Hid (pa.all (·.oneCell') = true) := by
    obtain ⟨a1, n1, c1', rfl, _, _, _⟩ := ha.shape
    obtain ⟨a2, n2, c2, rfl, _, _, _⟩ := ka.shape
    unfold Hid; rw [hpa]; simp [pkCells, Value.oneCell']
  have hb23 : Below w2.heap.size w2 w3 := by rw [hw3]; exact below_setCells' (Nat.le_refl _) _ _ _ ((Below.refl _ _).alloc (Nat.le_refl _) _)
  have hb3 : Below w1.heap.size w1 w3 := hb2.trans (hb23.mono hb2.size)
  have hrg3 : w3.rangeAt w2.heap.size 0 pa.toList := by rw [hw3]; exact World.rangeAt_setCells_same _ w2.heap.size 0 pa.toList (by rw [Array.length_toList]; exact HTA.out)
  have HA := hid (ha.below hb23)
  have HKA := hid (ka.below hb23)
  have HW3 : Hid (w3 = (w2.alloc (.cells #[.int .u8 0, .int .u16 0, .bool false, .bool false, .int .i64 0, .int .u8 0, .int .u8 0, .int .u32 0, .int .u32 0, .slice none 0 0, .slice none 0 0] 32)).setCells w2.heap.size 0 pa.toList) := hw3
  have c3 := HC.out _ hb3
  have hlt2 : w2.heap.size < w3.heap.size := by
    have h0 : pa.toList[0]? = some (.int .u8 (H.tos : Int)) := by rw [hpa]; rfl
    exact World.block_lt_of_cell? w3 _ (hrg3 0 _ h0)
  have HLT2 := hid hlt2
  rw [← hpa]
  clear hpa hw3 ha ka hb2 hb23 HP1 c1
  go_upto_region 7 with (first
    | (refine wpList_store_mid rfl 32 (.tmp 3) (.tmp 38) rfl w2.heap.size 0 pa rfl rfl HTA.out HZA.out HOA.out ?_)
    | fail)
  rw [← HW3.out]
  go_wp2_with fail
  refine (HP2.out _ hb3).mono ?_
  rintro _ w4 ⟨vb', xb, rfl, hb', kb, hb4⟩
  obtain ⟨pb, hpb⟩ : ∃ pb : Array Value, pb = pkCells H vb' xb := ⟨_, rfl⟩
  obtain ⟨w5, hw5⟩ : ∃ w5, w5 = (w4.alloc (.cells Z29 32)).setCells w4.heap.size 0 pb.toList := ⟨_, rfl⟩
  have HPB := hid hpb
  have HZB : Hid ((Try.prog.info? 32).map (·.size) = some pb.size) := by unfold Hid; rw [hpb]; exact size29'
  have HTB : Hid ((w4.alloc (.cells Z29 32)).there w4.heap.size 0 pb.size) := by unfold Hid; rw [hpb]; exact there_blk (C := Z29) (t := 32) (heap_alloc_new w4 _) rfl
  have HOB : Hid (pb.all (·.oneCell') = true) := by
    obtain ⟨a1, n1, c1', rfl, _, _, _⟩ := hb'.shape
    obtain ⟨a2, n2, c2, rfl, _, _, _⟩ := kb.shape
    unfold Hid; rw [hpb]; simp [pkCells, Value.oneCell']
  have hb45 : Below w4.heap.size w4 w5 := by rw [hw5]; exact below_setCells' (Nat.le_refl _) _ _ _ ((Below.refl _ _).alloc (Nat.le_refl _) _)
  have hb35 : Below w3.heap.size w3 w5 := hb4.trans (hb45.mono hb4.size)
  have hb5 : Below w1.heap.size w1 w5 := hb3.trans (hb35.mono hb3.size)
  have hrg5 : w5.rangeAt w4.heap.size 0 pb.toList := by rw [hw5]; exact World.rangeAt_setCells_same _ w4.heap.size 0 pb.toList (by rw [Array.length_toList]; exact HTB.out)
  have hrg3' : w5.rangeAt w2.heap.size 0 pa.toList := fun j v hv => (hb35.cell (p := ⟨w2.heap.size, 0 + j, none⟩) HLT2.out).trans (hrg3 j v hv)
  obtain ⟨fs, hu29⟩ := und29
  have HLA := hid (run_loadAt_mid w5 w2.heap.size 0 32 pa.toList (.struct fs) hrg3' hu29 rfl (by rw [Array.length_toList]; exact HZA.out))
  have HLB := hid (run_loadAt_mid w5 w4.heap.size 0 32 pb.toList (.struct fs) hrg5 hu29 rfl (by rw [Array.length_toList]; exact HZB.out))
  have HPK : Hid (Calls Try.prog 14 #[.agg pa, .agg pb] w5 fun e w' => e = .returned (.bool true) ∧ Below w5.heap.size w5 w') := by
    unfold Hid
    rw [HPA.out, HPB.out]
    exact packets_same H B va vb' xa xb w5 (HA.out.below hb35) (hb'.below hb45) (HKA.out.below hb35) (kb.below hb45)
  have HW5 : Hid (w5 = (w4.alloc (.cells #[.int .u8 0, .int .u16 0, .bool false, .bool false, .int .i64 0, .int .u8 0, .int .u8 0, .int .u32 0, .int .u32 0, .slice none 0 0, .slice none 0 0] 32)).setCells w4.heap.size 0 pb.toList) := hw5
  have HB5 := hid hb5
  rw [← hpb]
  clear hpb hw5 hb' kb hb4 hb45 hb35 hb5 hrg3 hrg3' hrg5 hu29 HP2 c3 hlt2
  go_upto_region 8 with (first
    | (refine wpList_store_mid rfl 32 (.tmp 5) (.tmp 44) rfl w4.heap.size 0 pb rfl rfl HTB.out HZB.out HOB.out ?_)
    | fail)
  rw [← HW5.out]
  go_wp2_with (first
    | (refine wpList_ld 32 ⟨w2.heap.size, 0, none⟩ (.tmp 3) rfl rfl HLA.out rfl ?_)
    | (refine wpList_ld 32 ⟨w4.heap.size, 0, none⟩ (.tmp 5) rfl rfl HLB.out rfl ?_)
    | fail)
  refine HPK.out.mono ?_
  rintro _ w6 ⟨rfl, hb6⟩
  go_wp2_with fail
  go_ret
  exact ⟨rfl, HB1.out.trans ((HB5.out.trans (hb6.mono HB5.out.size)).mono HB1.out.size)⟩
end Go.Proofs.Ytjjmopmdiflffac
