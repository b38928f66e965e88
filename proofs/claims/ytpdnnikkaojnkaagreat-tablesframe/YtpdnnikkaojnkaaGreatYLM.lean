import Derived.Test.YtpdnnikkaojnkaaGreatYLL
namespace Go.Proofs.YtpdnnikkaojnkaaGreat.Rt
open Go.Proofs.YtpdnnikkaojnkaaGreat Go.ChangeShapes Go.WideShapes Go.ChangeAt Go.RowKit Go.Maps Tri N
set_option maxHeartbeats 8000000
set_option maxRecDepth 100000
def fo1 : Opv := ⟨1, ⟨167837696, 16, 167837696, false⟩, ⟨0, ⟨0, 0, 0, 0, 0, 0⟩⟩, ⟨⟨0, 0, 0, 0, 0, 0⟩, 0⟩⟩
def fo2 : Opv := ⟨3, ⟨0, 0, 0, false⟩, ⟨167837696, ⟨2, 0, 0, 0, 0, 1⟩⟩, ⟨⟨0, 0, 0, 0, 0, 0⟩, 0⟩⟩
def fo3 : Opv := ⟨5, ⟨0, 0, 0, false⟩, ⟨0, ⟨0, 0, 0, 0, 0, 0⟩⟩, ⟨⟨2, 0, 0, 0, 0, 1⟩, 3221225985⟩⟩
def foC : Array Value := fo1.cells ++ fo2.cells ++ fo3.cells
theorem fo_ok : ∀ o ∈ [fo1, fo2, fo3], o.Ok := fun o ho => by
 simp only [List.mem_cons, List.not_mem_nil, or_false] at ho
 rcases ho with rfl | rfl | rfl
 all_goals exact ⟨by decide, by decide, by decide, by decide, by decide, by unfold Mc.Ok; decide, by unfold Mc.Ok; decide, by decide⟩
theorem foC_at {j : Nat} {o : Opv} (ho : ([fo1, fo2, fo3] : List Opv)[j]? = some o) {i : Nat} (hl : i < 19) : foC[0 + j * 19 + i]? = o.cells.toList[i]? := by
 have s1 : fo1.cells.size = 19 := rfl
 have s2 : fo2.cells.size = 19 := rfl
 unfold foC
 rw [Array.getElem?_append, Array.getElem?_append, Array.size_append, s1, s2]
 match j, ho with
 | 0, ho => obtain rfl := Option.some.inj ho; rw [if_pos (by omega), if_pos (by omega), show 0 + 0 * 19 + i = i by omega, Array.getElem?_toList]
 | 1, ho => obtain rfl := Option.some.inj ho; rw [if_pos (by omega), if_neg (by omega), show 0 + 1 * 19 + i - 19 = i by omega, Array.getElem?_toList]
 | 2, ho => obtain rfl := Option.some.inj ho; rw [if_neg (by omega), show 0 + 2 * 19 + i - (19 + 19) = i by omega, Array.getElem?_toList]
 | j + 3, ho => cases ho
theorem foC_eq : foC = #[.int .i64 1, .int .u32 167837696, .int .i64 16, .int .u32 167837696, .bool false, .int .u32 0, .int .u8 0, .int .u8 0, .int .u8 0, .int .u8 0, .int .u8 0, .int .u8 0, .int .u8 0, .int .u8 0, .int .u8 0, .int .u8 0, .int .u8 0, .int .u8 0, .int .u32 0, .int .i64 3, .int .u32 0, .int .i64 0, .int .u32 0, .bool false, .int .u32 167837696, .int .u8 2, .int .u8 0, .int .u8 0, .int .u8 0, .int .u8 0, .int .u8 1, .int .u8 0, .int .u8 0, .int .u8 0, .int .u8 0, .int .u8 0, .int .u8 0, .int .u32 0, .int .i64 5, .int .u32 0, .int .i64 0, .int .u32 0, .bool false, .int .u32 0, .int .u8 0, .int .u8 0, .int .u8 0, .int .u8 0, .int .u8 0, .int .u8 0, .int .u8 2, .int .u8 0, .int .u8 0, .int .u8 0, .int .u8 0, .int .u8 1, .int .u32 3221225985] := rfl
theorem sees_fo {w : World} {g : Nat} (h : w.heap[g]? = some (.cells foC 46)) : SeesOp (fun c => c = g) w (some ⟨g, 0, none⟩) 3 [fo1, fo2, fo3] := by
 refine ⟨rfl, .inr ⟨g, 0, rfl, rfl, (gsl h), fun j o ho i v hv => ?_⟩⟩
 rw [cell_of_row _ _ _ _ _ _ h]
 have hl : i < 19 := (List.getElem?_eq_some_iff.1 hv).1
 rw [foC_at ho hl]
 exact hv
theorem Pr.freshW {w w' : World} {X X' : Nat -> Prop} {b b' : Bks} {m : Nat} {v v' : Vs} {s : Ks} {B : Nat} (hX : ∀ c, X c -> B <= c) (hB : B <= w.heap.size) (h : PTurn w w' X b m v s X' b' v') : ∀ c, X' c -> B <= c := fun c hc => (h.xnew c hc).elim (hX c) fun h => Nat.le_trans hB h
theorem first_any (w : World) : Calls Tryz.prog 6 #[] w fun e w' => e = .returned (.bool true) /\ Below w.heap.size w w' := by
 have HC := hid (both_any w 2 1 1)
 have HCAP : Hid (Cap 2 1 1) := by unfold Hid Cap; decide
 go_enter Tryz.func6, Tryz.ntmps6
 go_wp2_with fail
 refine HC.out.mono ?_
 intro e w1 hp
 obtain ⟨X, b, m, v, rfl, hpr, hX⟩ := hp.1 HCAP.out
 have hb1 := hp.2.2
 have HP := hid hpr
 have HX := hid hX
 have HB1 := hid hb1
 generalize (⟨[], [], [], (2 : Int).toNat, (1 : Int).toNat, (1 : Int).toNat⟩ : Ks) = s at HP
 clear hp hpr hX hb1 HC
 go_upto_region 5 with (first | (refine wpList_alB rfl 36 #[.int .u32 0, .int .i64 0] rfl (fun u => by kernel_rfl) ?_; intro w2 hb2 hs2 hr2) | (refine wpList_stB rfl 36 (.tmp 4) (.tmp 19) rfl w1.heap.size #[.int .u32 167837696, .int .i64 16] rfl rfl _ hr2 (by kernel_rfl) rfl (by simp [Value.oneCell']) ?_; intro w3 hbt3 hr3) | fail)
 have hb3 : Below w1.heap.size w1 w3 := ⟨hbt3.os.trans hb2.os, hbt3.tape.trans hb2.tape, hbt3.output.trans hb2.output, Nat.le_trans hb2.size hbt3.size, fun k hk => (hbt3.block k (by omega) (by omega)).trans (hb2.block k hk)⟩
 have HB3 := hid hb3
 have HR3 : Hid (w3.heap[w1.heap.size]? = some (.cells #[.int .u32 167837696, .int .i64 16] 36)) := hr3
 clear hb2 hs2 hr2 hbt3 hr3 hb3
 go_upto_region 6 with (first | (refine wpList_alB rfl 40 #[.int .u8 0, .int .u8 0, .int .u8 0, .int .u8 0, .int .u8 0, .int .u8 0] rfl (fun u => by kernel_rfl) ?_; intro w4 hb4 hs4 hr4) | (refine wpList_stB rfl 40 (.tmp 5) (.tmp 20) rfl w3.heap.size #[.int .u8 2, .int .u8 0, .int .u8 0, .int .u8 0, .int .u8 0, .int .u8 1] rfl rfl _ hr4 (by kernel_rfl) rfl (by simp [Value.oneCell']) ?_; intro w5 hbt5 hr5) | fail)
 have hb5 : Below w3.heap.size w3 w5 := ⟨hbt5.os.trans hb4.os, hbt5.tape.trans hb4.tape, hbt5.output.trans hb4.output, Nat.le_trans hb4.size hbt5.size, fun k hk => (hbt5.block k (by omega) (by omega)).trans (hb4.block k hk)⟩
 have HB5 : Hid (Below w1.heap.size w1 w5) := HB3.out.trans (hb5.mono HB3.out.size)
 have r3 := below_keeps hb5 HR3.out (gsl HR3.out)
 have p0 : w5.cell? ⟨w1.heap.size, 0, none⟩ = some (.int .u32 167837696) := crw r3 rfl
 have p1 : w5.cell? ⟨w1.heap.size, 1, none⟩ = some (.int .i64 16) := crw r3 rfl
 have q0 : w5.cell? ⟨w3.heap.size, 0, none⟩ = some (.int .u8 2) := crw hr5 rfl
 have q1 : w5.cell? ⟨w3.heap.size, 1, none⟩ = some (.int .u8 0) := crw hr5 rfl
 have q2 : w5.cell? ⟨w3.heap.size, 2, none⟩ = some (.int .u8 0) := crw hr5 rfl
 have q3 : w5.cell? ⟨w3.heap.size, 3, none⟩ = some (.int .u8 0) := crw hr5 rfl
 have q4 : w5.cell? ⟨w3.heap.size, 4, none⟩ = some (.int .u8 0) := crw hr5 rfl
 have q5 : w5.cell? ⟨w3.heap.size, 5, none⟩ = some (.int .u8 1) := crw hr5 rfl
 obtain ⟨w6, HW6⟩ : ∃ w6, Hid (w6 = w5.alloc (.cells #[.int .i64 1, .int .u32 167837696, .int .i64 16, .int .u32 167837696, .bool false, .int .u32 0, .int .u8 0, .int .u8 0, .int .u8 0, .int .u8 0, .int .u8 0, .int .u8 0, .int .u8 0, .int .u8 0, .int .u8 0, .int .u8 0, .int .u8 0, .int .u8 0, .int .u32 0, .int .i64 3, .int .u32 0, .int .i64 0, .int .u32 0, .bool false, .int .u32 167837696, .int .u8 2, .int .u8 0, .int .u8 0, .int .u8 0, .int .u8 0, .int .u8 1, .int .u8 0, .int .u8 0, .int .u8 0, .int .u8 0, .int .u8 0, .int .u8 0, .int .u32 0, .int .i64 5, .int .u32 0, .int .i64 0, .int .u32 0, .bool false, .int .u32 0, .int .u8 0, .int .u8 0, .int .u8 0, .int .u8 0, .int .u8 0, .int .u8 0, .int .u8 2, .int .u8 0, .int .u8 0, .int .u8 0, .int .u8 0, .int .u8 1, .int .u32 3221225985] 46)) := ⟨_, rfl⟩
 have hb6 : Below w5.heap.size w5 w6 := by rw [HW6.out]; exact bR.alloc nL _
 have r6 : w6.heap[w5.heap.size]? = some (.cells foC 46) := by rw [HW6.out, foC_eq]; exact heap_alloc_new w5 _
 have HB6 : Hid (Below w1.heap.size w1 w6) := HB5.out.trans (hb6.mono HB5.out.size)
 have HP6 := hid (HP.out.below HB6.out)
 have HC1 : Hid (Calls Tryz.prog 19 #[.pointer (some ⟨b.kb, 0, none⟩), .pointer (some ⟨m, 0, none⟩), .agg #[.int .i64 1, .slice (some ⟨w5.heap.size, 0, none⟩) 3 3, .int .u32 0]] w6 fun e w' => e = .returned (.bool true) /\ Pd w6 w' X b m v (plS s 1 [fo1, fo2, fo3])) := by
  refine plays_any w6 1 3 0 HP6.out (sees_fo r6) (fun c hc e => ?_) fo_ok (by decide) (by decide)
  have h1 := HP.out.k.lt c (HP.out.fpx e)
  have h2 := HB5.out.size
  omega
 clear hb4 hs4 hr4 hbt5 hr5 hb5 r3 hb6 r6
 go_upto_region 7 with fail
 rw [<- HW6.out]
 clear p0 p1 q0 q1 q2 q3 q4 q5 HW6
 go_wp2_with fail
 refine HC1.out.mono ?_
 rintro _ w7 ⟨rfl, X7, b7, v7, ht7⟩
 have HT7 := hid ht7
 have HC2 : Hid (Calls Tryz.prog 19 #[.pointer (some ⟨b.kb, 0, none⟩), .pointer (some ⟨m, 0, none⟩), .agg #[.int .i64 2, .slice none 0 0, .int .u32 167837699]] w7 fun e w' => e = .returned (.bool true) /\ Pd w7 w' X7 b7 m v7 (plS (plS s 1 [fo1, fo2, fo3]) 2 [])) := by
  unfold Hid
  rw [<- ht7.kb]
  exact plays_any (K := fun _ => False) w7 2 0 167837699 ht7.pr (SeesOp.nil _ _ _) (fun c hc => hc.elim) (fun o ho => by cases ho) (by decide) (by decide)
 clear ht7 HC1
 go_wp2_with fail
 refine HC2.out.mono ?_
 rintro _ w8 ⟨rfl, X8, b8, v8, ht8⟩
 have HT8 := hid ht8
 have HC3 : Hid (Calls Tryz.prog 19 #[.pointer (some ⟨b.kb, 0, none⟩), .pointer (some ⟨m, 0, none⟩), .agg #[.int .i64 3, .slice none 0 0, .int .u32 0]] w8 fun e w' => e = .returned (.bool true) /\ Pd w8 w' X8 b8 m v8 (plS (plS (plS s 1 [fo1, fo2, fo3]) 2 []) 3 [])) := by
  unfold Hid
  rw [<- HT7.out.kb, <- ht8.kb]
  exact plays_any (K := fun _ => False) w8 3 0 0 ht8.pr (SeesOp.nil _ _ _) (fun c hc => hc.elim) (fun o ho => by cases ho) (by decide) (by decide)
 clear ht8 HC2
 go_wp2_with fail
 refine HC3.out.mono ?_
 rintro _ w9 ⟨rfl, X9, b9, v9, ht9⟩
 have HFIN : Hid (Below w.heap.size w w9) := by
  have z1 := HB1.out.size
  have z6 := HB6.out.size
  have z7 := HT7.out.keeps.size
  have z8 := HT8.out.keeps.size
  have x7 := Pr.freshW HX.out (by omega) HT7.out
  have x8 := Pr.freshW x7 (by omega) HT8.out
  have b6 : Below w.heap.size w w6 := HB1.out.trans (HB6.out.mono z1)
  have b7' := b6.trans (HT7.out.keeps.below (by omega) fun c hc => HX.out c (HP6.out.fpx hc))
  have b8' := b7'.trans (HT8.out.keeps.below (by omega) fun c hc => x7 c (HT7.out.pr.fpx hc))
  exact b8'.trans (ht9.keeps.below (by omega) fun c hc => x8 c (HT8.out.pr.fpx hc))
 clear ht9 HC3
 go_wp2_with fail
 go_ret
 exact ⟨rfl, HFIN.out⟩
structure Lop where
 kind : Int
 oa : Option Addr
 on : Nat
 oc : Nat
 L : List Opv
 d : Nat
end Go.Proofs.YtpdnnikkaojnkaaGreat.Rt
