import Derived.Test.YtpdnnikkaojnkaaGreatYKQ
namespace Go.Proofs.YtpdnnikkaojnkaaGreat.Rt
open Go.Proofs.YtpdnnikkaojnkaaGreat Go.ChangeShapes Go.WideShapes Go.ChangeAt Go.RowKit Go.Maps Tri N
set_option maxHeartbeats 8000000
set_option maxRecDepth 100000
theorem wpList_ixB {ops : Array Oper} {Q : Exit -> Act -> World -> Prop} {a : Act} {w : World} {rest : List Oper} {o : Oper} (hgd : o.guard = none) (T : TypeId) (x y : Operand) (ho : o.op = .index T x y) (vx vy v : Value) (hx : a.eval x = vx) (hy : a.eval y = vy) (hr : (Instr.index T vx vy).run Tryz.prog w = .ok v w) (h : wpList Tryz.prog ops Q rest (a.put o.dst v) w) : wpList Tryz.prog ops Q (o :: rest) a w :=
 wpList_plain hgd fun _ hK => wp_val (by unfold execOp; simp only [ho, hx, hy, Sem.run_bind, hr, Result.andThen_ok, Sem.run_pure]) (hK _ _ h)
theorem ix0 (r n f : Int) (u : World) : (Instr.index 63 (.agg #[.int .i64 r, .int .i64 n, .int .i64 f]) (.int .i64 0)).run Tryz.prog u = .ok (.int .i64 r) u := by kernel_rfl
theorem ix1 (r n f : Int) (u : World) : (Instr.index 63 (.agg #[.int .i64 r, .int .i64 n, .int .i64 f]) (.int .i64 1)).run Tryz.prog u = .ok (.int .i64 n) u := by kernel_rfl
theorem ix2 (r n f : Int) (u : World) : (Instr.index 63 (.agg #[.int .i64 r, .int .i64 n, .int .i64 f]) (.int .i64 2)).run Tryz.prog u = .ok (.int .i64 f) u := by kernel_rfl
def Cap (r n f : Int) : Prop := (1 <= r /\ r <= 256) /\ (1 <= n /\ n <= 256) /\ (1 <= f /\ f <= 256)
def NewP (w w' : World) (r n f : Int) (e : Ending) : Prop :=
 (Cap r n f -> ∃ b, e = .returned (.tuple #[.pointer (some ⟨b.kb, 0, none⟩), .int .i64 0]) /\ KAt w' (fun c => w.heap.size <= c /\ c < w'.heap.size) b ⟨[], [], [], r.toNat, n.toNat, f.toNat⟩ /\ Below w.heap.size w w') /\ (¬ Cap r n f -> e = .returned (.tuple #[.pointer none, .int .i64 1]) /\ w' = w)
theorem new_k {w w1 w2 w3 w4 : World} {r n f nb bm fb fm : Nat} (hr : 1 <= r /\ r <= 256) (hn : n <= 256) (hf : f <= 256) (hw1 : w1 = (w.alloc (.cells #[.pointer none] 139)).alloc (.cells #[.int .i64 (r : Int), .pointer (some ⟨w.heap.size, 0, none⟩)] 96))
  (h1 : w1.heap.size <= nb) (h2 : w1.heap.size <= bm) (h3 : BdN w2 nb bm n []) (h4 : Below w1.heap.size w1 w2) (h5 : w2.heap.size <= fb) (h6 : w2.heap.size <= fm) (h7 : BdF w3 fb fm f []) (h8 : Below w2.heap.size w2 w3)
  (hw4 : w4 = w3.alloc (.cells #[.pointer (some ⟨w.heap.size + 1, 0, none⟩), .pointer (some ⟨nb, 0, none⟩), .pointer (some ⟨fb, 0, none⟩)] 71)) :
  KAt w4 (fun c => w.heap.size <= c /\ c < w4.heap.size) ⟨w3.heap.size, w.heap.size + 1, w.heap.size, nb, bm, fb, fm⟩ ⟨[], [], [], r, n, f⟩ /\ Below w.heap.size w w4 := by
 have s1 : w1.heap.size = w.heap.size + 2 := by rw [hw1]; simp
 have b1 : Below w.heap.size w w1 := by rw [hw1]; exact (bR.alloc nL _).alloc (by simp) _
 have s4 : w4.heap.size = w3.heap.size + 1 := by rw [hw4]; simp
 have b4 : Below w3.heap.size w3 w4 := by rw [hw4]; exact bR.alloc nL _
 have r4 : w4.heap[w3.heap.size]? = some (.cells #[.pointer (some ⟨w.heap.size + 1, 0, none⟩), .pointer (some ⟨nb, 0, none⟩), .pointer (some ⟨fb, 0, none⟩)] 71) := by rw [hw4]; exact heap_alloc_new w3 _
 have l2 := h3.lt
 have l3 := h7.lt
 have z2 := h4.size
 have z3 := h8.size
 have b24 : Below w2.heap.size w2 w4 := h8.trans (b4.mono z3)
 have b14 : Below w1.heap.size w1 w4 := h4.trans (b24.mono z2)
 refine ⟨⟨r4, rt_new w r hr hw1 b14 _ ⟨nL, by omega⟩ ⟨by omega, by omega⟩ (fun c hc => hc.2), h3.below b24, h7.below b4, ⟨List.nodup_nil, fun v hv => (by cases hv), ⟨Nat.zero_le _, hr.2⟩, List.nodup_nil, fun v hv => (by cases hv), ⟨Nat.zero_le _, hn⟩, List.nodup_nil, fun v hv => (by cases hv), ⟨Nat.zero_le _, hf⟩⟩, ⟨⟨by show w.heap.size <= w3.heap.size; omega, by show w3.heap.size < w4.heap.size; omega⟩, ⟨by show w.heap.size <= nb; omega, by show nb < w4.heap.size; omega⟩, ⟨by show w.heap.size <= bm; omega, by show bm < w4.heap.size; omega⟩, ⟨by show w.heap.size <= fb; omega, by show fb < w4.heap.size; omega⟩, ⟨by show w.heap.size <= fm; omega, by show fm < w4.heap.size; omega⟩⟩, ?_⟩, b1.trans (b14.mono b1.size)⟩
 have n1 := h3.ne
 have n2 := h7.ne
 simp only [List.nodup_cons, List.mem_cons, List.not_mem_nil, or_false, not_or, List.nodup_nil, not_false_eq_true, and_true]
 omega
theorem newK_any (w : World) (r n f : Int) : Calls Tryz.prog 5 #[.int .i64 r, .int .i64 n, .int .i64 f] w fun e w' => NewP w w' r n f e := by
 go_enter Tryz.func5, Tryz.ntmps5
 go_upto_region 2 with fail
 go_loopw [14] (fun i wr => ∃ (j : Nat) (wx : World), wx = wr /\ wx = w /\ i = .int .i64 (j : Int) /\ j <= 3 /\ Hid ((0 < j -> 1 <= r /\ r <= 256) /\ (1 < j -> 1 <= n /\ n <= 256) /\ (2 < j -> 1 <= f /\ f <= 256))) (fun i _ => 3 - (intOf i).toNat)
 case atStart => exact ⟨0, _, rfl, rfl, rfl, by omega, fun h => absurd h (by omega), fun h => absurd h (by omega), fun h => absurd h (by omega)⟩
 case round =>
 obtain ⟨j, wx, rfl, rfl, rfl, hj, HI⟩ := hrel
 by_cases hj0 : j = 0
 ·subst hj0
  by_cases hlo : r < 1
  ·have HP : Hid (NewP wx wx r n f (.returned (.tuple #[.pointer none, .int .i64 1]))) := ⟨fun h => absurd h.1 (by omega), fun _ => ⟨rfl, rfl⟩⟩
   go_wp2_with (first | (refine wpList_ixB rfl 63 (.tmp 13) (.tmp 14) rfl _ _ _ rfl rfl (ix0 r n f _) ?_) | fail)
   go_ret2
   exact HP.out
  by_cases hhi : 256 < r
  ·have HP : Hid (NewP wx wx r n f (.returned (.tuple #[.pointer none, .int .i64 1]))) := ⟨fun h => absurd h.1 (by omega), fun _ => ⟨rfl, rfl⟩⟩
   go_wp2_with (first | (refine wpList_ixB rfl 63 (.tmp 13) (.tmp 14) rfl _ _ _ rfl rfl (ix0 r n f _) ?_) | fail)
   go_ret2
   exact HP.out
  have HI2 : Hid ((0 < 0 + 1 -> 1 <= r /\ r <= 256) /\ (1 < 0 + 1 -> 1 <= n /\ n <= 256) /\ (2 < 0 + 1 -> 1 <= f /\ f <= 256)) := ⟨fun _ => ⟨by omega, by omega⟩, fun h => absurd h (by omega), fun h => absurd h (by omega)⟩
  clear HI
  go_wp2_with (first | (refine wpList_ixB rfl 63 (.tmp 13) (.tmp 14) rfl _ _ _ rfl rfl (ix0 r n f _) ?_) | fail)
  go_roundw
  case rel => exact ⟨0 + 1, _, rfl, rfl, by go_num, by omega, HI2.out⟩
  case measure => simp [intOf]
 by_cases hj1 : j = 1
 ·subst hj1
  by_cases hlo : n < 1
  ·have HP : Hid (NewP wx wx r n f (.returned (.tuple #[.pointer none, .int .i64 1]))) := ⟨fun h => absurd h.2.1 (by omega), fun _ => ⟨rfl, rfl⟩⟩
   go_wp2_with (first | (refine wpList_ixB rfl 63 (.tmp 13) (.tmp 14) rfl _ _ _ rfl rfl (ix1 r n f _) ?_) | fail)
   go_ret2
   exact HP.out
  by_cases hhi : 256 < n
  ·have HP : Hid (NewP wx wx r n f (.returned (.tuple #[.pointer none, .int .i64 1]))) := ⟨fun h => absurd h.2.1 (by omega), fun _ => ⟨rfl, rfl⟩⟩
   go_wp2_with (first | (refine wpList_ixB rfl 63 (.tmp 13) (.tmp 14) rfl _ _ _ rfl rfl (ix1 r n f _) ?_) | fail)
   go_ret2
   exact HP.out
  have HI2 : Hid ((0 < 1 + 1 -> 1 <= r /\ r <= 256) /\ (1 < 1 + 1 -> 1 <= n /\ n <= 256) /\ (2 < 1 + 1 -> 1 <= f /\ f <= 256)) := ⟨fun _ => HI.out.1 (by omega), fun _ => ⟨by omega, by omega⟩, fun h => absurd h (by omega)⟩
  clear HI
  go_wp2_with (first | (refine wpList_ixB rfl 63 (.tmp 13) (.tmp 14) rfl _ _ _ rfl rfl (ix1 r n f _) ?_) | fail)
  go_roundw
  case rel => exact ⟨1 + 1, _, rfl, rfl, by go_num, by omega, HI2.out⟩
  case measure => simp [intOf]
 by_cases hj2 : j = 2
 ·subst hj2
  by_cases hlo : f < 1
  ·have HP : Hid (NewP wx wx r n f (.returned (.tuple #[.pointer none, .int .i64 1]))) := ⟨fun h => absurd h.2.2 (by omega), fun _ => ⟨rfl, rfl⟩⟩
   go_wp2_with (first | (refine wpList_ixB rfl 63 (.tmp 13) (.tmp 14) rfl _ _ _ rfl rfl (ix2 r n f _) ?_) | fail)
   go_ret2
   exact HP.out
  by_cases hhi : 256 < f
  ·have HP : Hid (NewP wx wx r n f (.returned (.tuple #[.pointer none, .int .i64 1]))) := ⟨fun h => absurd h.2.2 (by omega), fun _ => ⟨rfl, rfl⟩⟩
   go_wp2_with (first | (refine wpList_ixB rfl 63 (.tmp 13) (.tmp 14) rfl _ _ _ rfl rfl (ix2 r n f _) ?_) | fail)
   go_ret2
   exact HP.out
  have HI2 : Hid ((0 < 2 + 1 -> 1 <= r /\ r <= 256) /\ (1 < 2 + 1 -> 1 <= n /\ n <= 256) /\ (2 < 2 + 1 -> 1 <= f /\ f <= 256)) := ⟨fun _ => HI.out.1 (by omega), fun _ => HI.out.2.1 (by omega), fun _ => ⟨by omega, by omega⟩⟩
  clear HI
  go_wp2_with (first | (refine wpList_ixB rfl 63 (.tmp 13) (.tmp 14) rfl _ _ _ rfl rfl (ix2 r n f _) ?_) | fail)
  go_roundw
  case rel => exact ⟨2 + 1, _, rfl, rfl, by go_num, by omega, HI2.out⟩
  case measure => simp [intOf]
 obtain rfl : j = 3 := by omega
 clear hj hj0 hj1 hj2
 obtain ⟨i1, i2, i3⟩ := HI.out
 have hr := i1 (by omega)
 have hn := i2 (by omega)
 have hf := i3 (by omega)
 obtain ⟨r', rfl⟩ : ∃ k : Nat, r = (k : Int) := ⟨r.toNat, by omega⟩
 obtain ⟨n', rfl⟩ : ∃ k : Nat, n = (k : Int) := ⟨n.toNat, by omega⟩
 obtain ⟨f', rfl⟩ : ∃ k : Nat, f = (k : Int) := ⟨f.toNat, by omega⟩
 have HR : Hid (1 <= r' /\ r' <= 256) := ⟨by omega, by omega⟩
 have HNN : Hid (1 <= n' /\ n' <= 256) := ⟨by omega, by omega⟩
 have HFF : Hid (1 <= f' /\ f' <= 256) := ⟨by omega, by omega⟩
 have HCP : Hid (Cap r' n' f') := ⟨hr, hn, hf⟩
 have H1 := hid (newR_any wx r' HR.out)
 clear i1 i2 i3 hr hn hf HI
 go_wp2_with fail
 refine H1.out.mono ?_
 rintro _ w1 ⟨rfl, hw1⟩
 have HW1 := hid hw1
 have H2 := hid (newN_any w1 n' HNN.out)
 clear hw1 H1
 go_wp2_with fail
 refine H2.out.mono ?_
 rintro _ w2 ⟨nb, bm, rfl, g1, g2, g3, g4⟩
 have HG := hid (And.intro g1 (And.intro g2 (And.intro g3 g4)))
 have H3 := hid (newF_any w2 f' HFF.out)
 clear g1 g2 g3 g4 H2
 go_wp2_with fail
 refine H3.out.mono ?_
 rintro _ w3 ⟨fb, fm, rfl, g5, g6, g7, g8⟩
 obtain ⟨w4, HW4⟩ : ∃ w4, Hid (w4 = w3.alloc (.cells #[.pointer (some ⟨wx.heap.size + 1, 0, none⟩), .pointer (some ⟨nb, 0, none⟩), .pointer (some ⟨fb, 0, none⟩)] 71)) := ⟨_, rfl⟩
 have HK : Hid (NewP wx w4 r' n' f' (.returned (.tuple #[.pointer (some ⟨w3.heap.size, 0, none⟩), .int .i64 0]))) := by
  obtain ⟨g1, g2, g3, g4⟩ := HG.out
  obtain ⟨k1, k2⟩ := new_k HR.out HNN.out.2 HFF.out.2 HW1.out g1 g2 g3 g4 g5 g6 g7 g8 HW4.out
  exact ⟨fun _ => ⟨_, rfl, k1, k2⟩, fun h => absurd HCP.out h⟩
 clear g5 g6 g7 g8 H3 HG
 go_wp2_with fail
 rw [<- HW4.out]
 go_ret2
 exact HK.out
end Go.Proofs.YtpdnnikkaojnkaaGreat.Rt
