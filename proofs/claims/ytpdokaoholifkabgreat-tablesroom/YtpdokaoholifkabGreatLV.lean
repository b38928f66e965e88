/-
  tables, the law: TablesRoom's walk.
-/
import Derived.Test.YtpdokaoholifkabGreatLVM
namespace Go.Proofs.YtpdokaoholifkabGreat.Rt
open Go.Proofs.YtpdokaoholifkabGreat Go.ChangeShapes Go.WideShapes Go.ChangeAt Go.RowKit Go.Maps Tri N
set_option maxHeartbeats 1000000
set_option maxRecDepth 100000

theorem room_walk (r n f : Int) (w : World) :
    Calls Tryz.prog 5 #[.agg #[.int .i64 r, .int .i64 n, .int .i64 f]] w fun e w' => e = .returned (.bool true) ∧ Below w.heap.size w w' := by
  obtain ⟨w1, HW1⟩ : ∃ w1, Hid (w1 = w.alloc (.cells #[.int .i64 r, .int .i64 n, .int .i64 f] 23)) := ⟨_, rfl⟩
  have hb1 : Below w.heap.size w w1 := by rw [HW1.out]; exact (Below.refl _ _).alloc (Nat.le_refl _) _
  have r1 : w1.heap[w.heap.size]? = some (.cells #[.int .i64 r, .int .i64 n, .int .i64 f] 23) := by rw [HW1.out]; exact heap_alloc_new w _
  have c0 : w1.cell? ⟨w.heap.size, 0, none⟩ = some (.int .i64 r) := by rw [cell_of_row _ _ _ _ _ _ r1]; rfl
  have c1 : w1.cell? ⟨w.heap.size, 1, none⟩ = some (.int .i64 n) := by rw [cell_of_row _ _ _ _ _ _ r1]; rfl
  have c2 : w1.cell? ⟨w.heap.size, 2, none⟩ = some (.int .i64 f) := by rw [cell_of_row _ _ _ _ _ _ r1]; rfl
  have HQ : Hid (∀ u : World, Below w1.heap.size w1 u → u.cell? ⟨w.heap.size, 0, none⟩ = some (.int .i64 r) ∧ u.cell? ⟨w.heap.size, 1, none⟩ = some (.int .i64 n) ∧ u.cell? ⟨w.heap.size, 2, none⟩ = some (.int .i64 f)) := fun u hu => by
    have hq := below_keeps hu r1 (Array.getElem?_eq_some_iff.1 r1).1
    refine ⟨?_, ?_, ?_⟩ <;> rw [cell_of_row _ _ _ _ _ _ hq] <;> rfl
  have HB1 := hid hb1
  have HC := hid (newK_any w1 r n f)
  clear hb1 r1
  go_enter Tryz.func5, Tryz.ntmps5
  go_upto_region 1 with fail
  rw [← HW1.out]
  clear HW1
  go_wp2_with fail
  refine HC.out.mono ?_
  intro e w2 hp
  by_cases hcap : Cap r n f
  · obtain ⟨b1, rfl, hk1, hb2⟩ := hp.1 hcap
    obtain ⟨hr, hn, hf⟩ : (1 ≤ r ∧ r ≤ 256) ∧ (1 ≤ n ∧ n ≤ 256) ∧ (1 ≤ f ∧ f ≤ 256) := hcap
    obtain ⟨R, rfl⟩ : ∃ R : Nat, r = (R : Int) := ⟨r.toNat, by omega⟩
    obtain ⟨N, rfl⟩ : ∃ N : Nat, n = (N : Int) := ⟨n.toNat, by omega⟩
    obtain ⟨G, rfl⟩ : ∃ G : Nat, f = (G : Int) := ⟨f.toNat, by omega⟩
    have HKK : Hid (K1 w1 w2.heap.size w2 b1.kb (roomS R N G 0 0 0)) := by
      have e : roomS R N G 0 0 0 = ⟨[], [], [], (R : Int).toNat, (N : Int).toNat, (G : Int).toNat⟩ := by simp [roomS, rowO]
      unfold Hid
      rw [e]
      exact K1.new hk1 hb2
    have HCP : Hid ((1 ≤ R ∧ R ≤ 256) ∧ N ≤ 256 ∧ G ≤ 256) := ⟨by omega, by omega, by omega⟩
    have HF := hid (first_any w2)
    generalize b1.kb = k1 at HKK ⊢
    obtain ⟨NN, HNN⟩ : ∃ NN, Hid (NN = w2.heap.size) := ⟨_, rfl⟩
    rw [← HNN.out] at HKK
    clear hp hk1 hb2 c0 c1 c2 HC hr hn hf
    go_wp2_with fail
    refine HF.out.mono ?_
    rintro _ w4 ⟨rfl, hb4⟩
    have HI0 := hid (HKK.out.below hb4)
    clear hb4 HF HKK HNN
    go_upto_region 7 with fail
    go_loopw [5] (fun i wr => ∃ (j : Nat), i = .int .i64 (j : Int) ∧ j ≤ 300 ∧ Hid (K1 w1 NN wr k1 (roomS R N G j j j))) (fun i _ => 300 - (intOf i).toNat)
    case atStart => exact ⟨0, rfl, Nat.zero_le _, HI0⟩
    case round =>
    obtain ⟨j, rfl, hj, HI⟩ := hrel
    by_cases hlt : j < 300
    · have hlt' : (j : Int) < 300 := by omega
      obtain ⟨m4, HM4⟩ : ∃ m4, Hid (m4 = j / 256) := ⟨_, rfl⟩
      obtain ⟨m5, HM5⟩ : ∃ m5, Hid (m5 = j % 256) := ⟨_, rfl⟩
      have t1 : Int.tdiv (j : Int) 256 = (m4 : Int) := by rw [HM4.out]; rfl
      have t2 : Int.tmod (j : Int) 256 = (m5 : Int) := by rw [HM5.out]; rfl
      have t3 : (j : Int) / 256 = (m4 : Int) := by rw [HM4.out]; rfl
      have t4 : (j : Int) % 256 = (m5 : Int) := by rw [HM5.out]; rfl
      have b4 : m4 < 256 := by have := HM4.out; omega
      have b5 : m5 < 256 := by have := HM5.out; omega
      have u1 : IntKind.u32.wrap (j : Int) = (j : Int) := wU32 (by omega) (by omega)
      have u2 : IntKind.u8.wrap (m4 : Int) = (m4 : Int) := wU8 (by omega) (by omega)
      have u3 : IntKind.u8.wrap (m5 : Int) = (m5 : Int) := wU8 (by omega) (by omega)
      have u4 : IntKind.i64.wrap (m4 : Int) = (m4 : Int) := wI64 (by omega) (by omega)
      have u5 : IntKind.i64.wrap (m5 : Int) = (m5 : Int) := wI64 (by omega) (by omega)
      go_upto_region 11 with (first | (refine wpList_alB rfl 45 #[.int .u8 0, .int .u8 0, .int .u8 0, .int .u8 0, .int .u8 0, .int .u8 0] rfl (fun u => by kernel_rfl) ?_; intro w5 hb5 hs5 hr5) | (refine wpList_stB rfl 45 (.tmp 7) (.tmp 52) rfl wr.heap.size #[.int .u8 1, .int .u8 2, .int .u8 3, .int .u8 4, .int .u8 (m4 : Int), .int .u8 (m5 : Int)] rfl rfl _ hr5 (by kernel_rfl) rfl (by simp [Value.oneCell']) ?_; intro w6 hbt6 hr6) | fail)
      have hb6 : Below wr.heap.size wr w6 := ⟨hbt6.os.trans hb5.os, hbt6.tape.trans hb5.tape, hbt6.output.trans hb5.output, Nat.le_trans hb5.size hbt6.size, fun k hk => (hbt6.block k (by omega) (by omega)).trans (hb5.block k hk)⟩
      have HI6 := hid (HI.out.below hb6)
      have HR6 : Hid (w6.heap[wr.heap.size]? = some (.cells #[.int .u8 1, .int .u8 2, .int .u8 3, .int .u8 4, .int .u8 (m4 : Int), .int .u8 (m5 : Int)] 45)) := hr6
      have HNW : Hid (NN ≤ wr.heap.size) := HI.out.hi
      obtain ⟨w7, HW7⟩ : ∃ w7, Hid (w7 = w6.alloc (.cells #[.int .i64 1, .int .u32 (j : Int), .int .i64 32, .int .u32 (j : Int), .bool false, .int .u32 0, .int .u8 0, .int .u8 0, .int .u8 0, .int .u8 0, .int .u8 0, .int .u8 0, .int .u8 0, .int .u8 0, .int .u8 0, .int .u8 0, .int .u8 0, .int .u8 0, .int .u32 0] 57)) := ⟨_, rfl⟩
      obtain ⟨p1, p2⟩ := room1 R N G j j j
      have HC7 := hid (HI6.out.one (w' := w7) (o := op1 j) (by rw [HW7.out]; rfl) (op1_ok hlt))
      rw [p2] at HC7
      obtain ⟨E1, HE1⟩ : ∃ E1, Hid (E1 = oneE (roomS R N G j j j) (op1 j)) := ⟨_, rfl⟩
      rw [← HE1.out] at HC7 p1
      obtain ⟨N1, HN1⟩ : ∃ N1 : Int, Hid (N1 = (((if E1 = 0 then 1 else 0 : Nat)) : Int)) := ⟨_, rfl⟩
      rw [← HN1.out] at HC7
      have HA1 : Hid (Ans (j < R) N1 E1) := by unfold Hid; rw [HN1.out]; exact Ans.mk' p1
      clear hb5 hs5 hr5 hbt6 hr6 hb6 p1 p2 HI t1 t2 t3 t4 u1 u2 u3 u4 u5
      go_wp2_with fail
      rw [← HW7.out]
      refine HC7.out.mono ?_
      rintro _ w8 ⟨rfl, hk8, hx8⟩
      have hr8 := (hx8 _ (Array.getElem?_eq_some_iff.1 HR6.out).1 (.inr HNW.out)).trans HR6.out
      have HI8 := hid hk8
      have HR8 := hid hr8
      have HL8 : Hid ((Instr.loadAt 45 (.pointer (some ⟨wr.heap.size, 0, none⟩))).run Tryz.prog w8 = .ok (.agg #[.int .u8 1, .int .u8 2, .int .u8 3, .int .u8 4, .int .u8 (m4 : Int), .int .u8 (m5 : Int)]) w8) := box_load hr8 uM rfl (by kernel_rfl)
      obtain ⟨w9, HW9⟩ : ∃ w9, Hid (w9 = w8.alloc (.cells #[.int .i64 3, .int .u32 0, .int .i64 0, .int .u32 0, .bool false, .int .u32 (j : Int), .int .u8 1, .int .u8 2, .int .u8 3, .int .u8 4, .int .u8 (m4 : Int), .int .u8 (m5 : Int), .int .u8 0, .int .u8 0, .int .u8 0, .int .u8 0, .int .u8 0, .int .u8 0, .int .u32 0] 57)) := ⟨_, rfl⟩
      obtain ⟨p1, p2⟩ := room3 R N G (j + 1) j j
      have HC9 := hid (HI8.out.one (w' := w9) (o := op3 j) (by rw [HW9.out, HM4.out, HM5.out]; rfl) (op3_ok hlt))
      rw [p2] at HC9
      obtain ⟨E3, HE3⟩ : ∃ E3, Hid (E3 = oneE (roomS R N G (j + 1) j j) (op3 j)) := ⟨_, rfl⟩
      rw [← HE3.out] at HC9 p1
      obtain ⟨N3, HN3⟩ : ∃ N3 : Int, Hid (N3 = (((if E3 = 0 then 1 else 0 : Nat)) : Int)) := ⟨_, rfl⟩
      rw [← HN3.out] at HC9
      have HA3 : Hid (Ans (j < N) N3 E3) := by unfold Hid; rw [HN3.out]; exact Ans.mk' p1
      clear hk8 hx8 hr8 p1 p2 HI6 HC7 HR6 HW7
      go_wp2_with (first | (refine wpList_ld 45 ⟨wr.heap.size, 0, none⟩ (.tmp 7) rfl rfl HL8.out rfl ?_) | fail)
      rw [← HW9.out]
      refine HC9.out.mono ?_
      rintro _ w10 ⟨rfl, hk10, hx10⟩
      have hr10 := (hx10 _ (Array.getElem?_eq_some_iff.1 HR8.out).1 (.inr HNW.out)).trans HR8.out
      have HI10 := hid hk10
      have HL10 : Hid ((Instr.loadAt 45 (.pointer (some ⟨wr.heap.size, 0, none⟩))).run Tryz.prog w10 = .ok (.agg #[.int .u8 1, .int .u8 2, .int .u8 3, .int .u8 4, .int .u8 (m4 : Int), .int .u8 (m5 : Int)]) w10) := box_load hr10 uM rfl (by kernel_rfl)
      obtain ⟨w11, HW11⟩ : ∃ w11, Hid (w11 = w10.alloc (.cells #[.int .i64 5, .int .u32 0, .int .i64 0, .int .u32 0, .bool false, .int .u32 0, .int .u8 0, .int .u8 0, .int .u8 0, .int .u8 0, .int .u8 0, .int .u8 0, .int .u8 1, .int .u8 2, .int .u8 3, .int .u8 4, .int .u8 (m4 : Int), .int .u8 (m5 : Int), .int .u32 (j : Int)] 57)) := ⟨_, rfl⟩
      obtain ⟨p1, p2⟩ := room5 R N G (j + 1) (j + 1) j
      have HC11 := hid (HI10.out.one (w' := w11) (o := op5 j) (by rw [HW11.out, HM4.out, HM5.out]; rfl) (op5_ok hlt))
      rw [p2] at HC11
      obtain ⟨E5, HE5⟩ : ∃ E5, Hid (E5 = oneE (roomS R N G (j + 1) (j + 1) j) (op5 j)) := ⟨_, rfl⟩
      rw [← HE5.out] at HC11 p1
      obtain ⟨N5, HN5⟩ : ∃ N5 : Int, Hid (N5 = (((if E5 = 0 then 1 else 0 : Nat)) : Int)) := ⟨_, rfl⟩
      rw [← HN5.out] at HC11
      have HA5 : Hid (Ans (j < G) N5 E5) := by unfold Hid; rw [HN5.out]; exact Ans.mk' p1
      clear hk10 hx10 hr10 p1 p2 HI8 HC9 HR8 HW9 HL8
      go_wp2_with (first | (refine wpList_ld 45 ⟨wr.heap.size, 0, none⟩ (.tmp 7) rfl rfl HL10.out rfl ?_) | fail)
      rw [← HW11.out]
      refine HC11.out.mono ?_
      rintro _ w12 ⟨rfl, hk12, -⟩
      have HI12 := hid hk12
      obtain ⟨d0, d1, d2⟩ := HQ.out w12 hk12.bel
      have HY1 := hid (room_yes w12 HA1.out.room)
      have HY3 := hid (room_yes w12 HA3.out.room)
      have HY5 := hid (room_yes w12 HA5.out.room)
      clear hk12 HI10 HC11 HW11 HL10 HA1 HA3 HA5 HE1 HE3 HE5 HN1 HN3 HN5 HM4 HM5
      go_wp2_with fail
      refine HY1.out.mono ?_
      rintro _ _ ⟨rfl, ew⟩
      obtain rfl := ew.symm
      clear ew HY1
      go_wp2_with fail
      refine HY3.out.mono ?_
      rintro _ _ ⟨rfl, ew⟩
      obtain rfl := ew.symm
      clear ew HY3
      go_wp2_with fail
      refine HY5.out.mono ?_
      rintro _ _ ⟨rfl, ew⟩
      obtain rfl := ew.symm
      clear ew HY5
      go_wp2_with fail
      go_roundw
      case rel => exact ⟨j + 1, by go_num, hlt, HI12⟩
      case measure => simp [intOf]; omega
    · have hlt' : ¬ (j : Int) < 300 := by omega
      obtain rfl : j = 300 := by omega
      obtain ⟨w5, HW5⟩ : ∃ w5, Hid (w5 = wr.alloc (.cells #[.int .i64 2, .int .u32 0, .int .i64 32, .int .u32 0, .bool false, .int .u32 0, .int .u8 0, .int .u8 0, .int .u8 0, .int .u8 0, .int .u8 0, .int .u8 0, .int .u8 0, .int .u8 0, .int .u8 0, .int .u8 0, .int .u8 0, .int .u8 0, .int .u32 0, .int .i64 1, .int .u32 900, .int .i64 32, .int .u32 0, .bool false, .int .u32 0, .int .u8 0, .int .u8 0, .int .u8 0, .int .u8 0, .int .u8 0, .int .u8 0, .int .u8 0, .int .u8 0, .int .u8 0, .int .u8 0, .int .u8 0, .int .u8 0, .int .u32 0, .int .i64 1, .int .u32 901, .int .i64 32, .int .u32 0, .bool false, .int .u32 0, .int .u8 0, .int .u8 0, .int .u8 0, .int .u8 0, .int .u8 0, .int .u8 0, .int .u8 0, .int .u8 0, .int .u8 0, .int .u8 0, .int .u8 0, .int .u8 0, .int .u32 0] 57)) := ⟨_, rfl⟩
      have hb5 : Below wr.heap.size wr w5 := by rw [HW5.out]; exact (Below.refl _ _).alloc (Nat.le_refl _) _
      have hr5 : w5.heap[wr.heap.size]? = some (.cells #[.int .i64 2, .int .u32 0, .int .i64 32, .int .u32 0, .bool false, .int .u32 0, .int .u8 0, .int .u8 0, .int .u8 0, .int .u8 0, .int .u8 0, .int .u8 0, .int .u8 0, .int .u8 0, .int .u8 0, .int .u8 0, .int .u8 0, .int .u8 0, .int .u32 0, .int .i64 1, .int .u32 900, .int .i64 32, .int .u32 0, .bool false, .int .u32 0, .int .u8 0, .int .u8 0, .int .u8 0, .int .u8 0, .int .u8 0, .int .u8 0, .int .u8 0, .int .u8 0, .int .u8 0, .int .u8 0, .int .u8 0, .int .u8 0, .int .u32 0, .int .i64 1, .int .u32 901, .int .i64 32, .int .u32 0, .bool false, .int .u32 0, .int .u8 0, .int .u8 0, .int .u8 0, .int .u8 0, .int .u8 0, .int .u8 0, .int .u8 0, .int .u8 0, .int .u8 0, .int .u8 0, .int .u8 0, .int .u8 0, .int .u32 0] 57) := by rw [HW5.out]; exact heap_alloc_new wr _
      obtain ⟨q1, q2, q3, q4, q5⟩ := room_end HI.out.ok HCP.out.1 HCP.out.2.1 HCP.out.2.2
      have HC5 := hid ((HI.out.below hb5).do 3 (sees_three (o1 := opd 2 0) (o2 := opd 1 900) (o3 := opd 1 901) hr5 rfl) (fun c hc => .inr (by rw [hc]; exact HI.out.hi)) (fun o ho => by
        simp only [List.mem_cons, List.not_mem_nil, or_false] at ho
        rcases ho with rfl | rfl | rfl <;> exact opd_ok (by decide) (by decide)) (by decide))
      rw [q1, q2] at HC5
      have HQQ := hid (And.intro q3 (And.intro q4 q5))
      clear hb5 hr5 q1 q2 q3 q4 q5 hlt
      go_wp2_with fail
      rw [← HW5.out]
      refine HC5.out.mono ?_
      rintro _ w6 ⟨rfl, hk6, -⟩
      have HK6 := hid hk6
      have HDA := hid hk6.dump
      clear hk6 HC5 HW5
      go_wp2_with fail
      refine HDA.out.mono ?_
      rintro _ w7 ⟨_, rfl, x1, y1, z1, rfl, ⟨A1, o1, s1⟩, ⟨A2, o2, s2⟩, ⟨A3, o3, s3⟩, hb7⟩
      have hok := HK6.out.ok
      obtain ⟨a1, n1, c1, rfl, hn1, -, -⟩ := (own_R.2 o1).shape
      obtain ⟨a2, n2, c2, rfl, hn2, -, -⟩ := (own_N.2 o2).shape
      obtain ⟨a3, n3, c3, rfl, hn3, -, -⟩ := (own_F.2 o3).shape
      obtain rfl : n1 = R := by rw [hn1.out, s1.len ((List.pairwise_map.1 hok.rn).imp fun h e => h (by rw [e]))]; exact HQQ.out.1
      obtain rfl : n2 = N := by rw [hn2.out, s2.len ((List.pairwise_map.1 hok.nn).imp fun h e => h (by rw [e]))]; exact HQQ.out.2.1
      obtain rfl : n3 = G := by rw [hn3.out, s3.len ((List.pairwise_map.1 hok.fn).imp fun h e => h (by rw [e]))]; exact HQQ.out.2.2
      have HK7 := hid (HK6.out.below hb7)
      clear o1 o2 o3 s1 s2 s3 hn1 hn2 hn3 hb7 hok HDA HQQ HK6
      go_upto_region 18 with (first | (refine wpList_alB rfl 63 #[.slice none 0 0, .slice none 0 0, .slice none 0 0] rfl (fun u => by kernel_rfl) ?_; intro w8 hb8 hs8 hr8) | (refine wpList_stB rfl 63 (.tmp 16) (.tmp 128) rfl w7.heap.size #[.slice a1 n1 c1, .slice a2 n2 c2, .slice a3 n3 c3] rfl rfl _ hr8 (by kernel_rfl) rfl (by simp [Value.oneCell']) ?_; intro w9 hbt9 hr9) | fail)
      have hb9 : Below w7.heap.size w7 w9 := ⟨hbt9.os.trans hb8.os, hbt9.tape.trans hb8.tape, hbt9.output.trans hb8.output, Nat.le_trans hb8.size hbt9.size, fun k hk => (hbt9.block k (by omega) (by omega)).trans (hb8.block k hk)⟩
      have hk9 := HK7.out.below hb9
      obtain ⟨d0, d1, d2⟩ := HQ.out w9 hk9.bel
      have e0 : w9.cell? ⟨w7.heap.size, 0, none⟩ = some (.slice a1 n1 c1) := by rw [cell_of_row _ _ _ _ _ _ hr9]; rfl
      have e1 : w9.cell? ⟨w7.heap.size, 1, none⟩ = some (.slice a2 n2 c2) := by rw [cell_of_row _ _ _ _ _ _ hr9]; rfl
      have e2 : w9.cell? ⟨w7.heap.size, 2, none⟩ = some (.slice a3 n3 c3) := by rw [cell_of_row _ _ _ _ _ _ hr9]; rfl
      have HFIN : Hid (Below w.heap.size w w9) := HB1.out.trans (hk9.bel.mono HB1.out.size)
      clear hb8 hs8 hr8 hbt9 hr9 hb9 hk9 HK7
      go_wp2_with fail
      go_ret
      exact ⟨rfl, HFIN.out⟩
  · obtain ⟨rfl, ew⟩ := hp.2 hcap
    obtain rfl := ew.symm
    have HF := hid (first_any w1)
    clear hp ew hcap HC c0 c1 c2
    go_wp2_with fail
    refine HF.out.mono ?_
    rintro _ w4 ⟨rfl, hb4⟩
    have HFIN : Hid (Below w.heap.size w w4) := HB1.out.trans (hb4.mono HB1.out.size)
    clear hb4 HF
    go_wp2_with fail
    go_ret
    exact ⟨rfl, HFIN.out⟩
end Go.Proofs.YtpdokaoholifkabGreat.Rt
