/-
  tunnel: copied, join, pseudoOf, headOf.
-/
import Derived.Test.YtcelcnafcfefhaaTD
import Derived.Test.YtcelcnafcfefhaaNBD
import Derived.Test.YtcelcnafcfefhaaNWH
namespace Go.Proofs.Ytcelcnafcfefhaa.N
open Go.ChangeShapes Go.WideShapes Go.ChangeAt Go.RowKit
set_option maxHeartbeats 4000000
set_option maxRecDepth 100000

/-- Cells written one behind the other. -/
def wr (C : Array Value) : Nat → List Value → Array Value
  | _, [] => C
  | o, v :: vs => wr (C.setIfInBounds o v) (o + 1) vs

theorem heap_setCell_row {w : World} {b o : Nat} {C : Array Value} {T : TypeId} {fz : Nat × Nat} (h : w.heap[b]? = some (.cells C T fz)) (v : Value) : (w.setCell ⟨b, o, none⟩ v).heap[b]? = some (.cells (C.setIfInBounds o v) T fz) := by
  simp only [World.setCell, Array.getElem?_modify, h]
  simp

theorem heap_setCells_row {b : Nat} {T : TypeId} {fz : Nat × Nat} : ∀ (vs : List Value) (o : Nat) (w : World) (C : Array Value), w.heap[b]? = some (.cells C T fz) → (w.setCells b o vs).heap[b]? = some (.cells (wr C o vs) T fz)
  | [], _, _, _, h => h
  | v :: vs, o, w, C, h => by
    rw [World.setCells]
    exact heap_setCells_row vs (o + 1) _ _ (heap_setCell_row h v)

theorem wr_list : ∀ (vs : List Value) (o : Nat) (C : Array Value), o + vs.length = C.size → (wr C o vs).toList = C.toList.take o ++ vs
  | [], o, C, h => by
    simp only [List.length_nil, Nat.add_zero] at h
    rw [wr, List.append_nil, List.take_of_length_le (by rw [Array.length_toList]; omega)]
  | v :: vs, o, C, h => by
    simp only [List.length_cons] at h
    rw [wr, wr_list vs (o + 1) _ (by rw [Array.size_setIfInBounds]; omega), Array.toList_setIfInBounds, List.take_succ_eq_append_getElem (by rw [List.length_set, Array.length_toList]; omega), List.take_set, List.set_eq_of_length_le (by rw [List.length_take, Array.length_toList]; omega), List.getElem_set_self, List.append_assoc]
    rfl

/-- A block that is written whole. -/
theorem row_put {u : World} {b : Nat} {Z pa : Array Value} {T : TypeId} (hb : u.heap[b]? = some (.cells Z T (0, 0))) (hz : pa.size = Z.size) : (u.setCells b 0 pa.toList).heap[b]? = some (.cells pa T (0, 0)) := by
  rw [heap_setCells_row pa.toList 0 u Z hb]
  have : wr Z 0 pa.toList = pa := by
    apply Array.toList_inj.1
    rw [wr_list _ _ _ (by rw [Array.length_toList]; omega)]
    rfl
  rw [this]

theorem load_row {w : World} {b : Nat} {pa : Array Value} {T t : TypeId} {d : TypeDesc} (h : w.heap[b]? = some (.cells pa t (0, 0))) (hu : Try.prog.underlying T = some d) (hd : d.isRow = true) (hi : (Try.prog.info? T).map (·.size) = some pa.size) :
    (loadVar T ⟨b, 0, none⟩).run Try.prog w = .ok (.agg pa) w :=
  run_loadVar_mid w b 0 T pa.toList d (fun j v hv => by rw [Nat.zero_add, cell_of_row _ _ _ _ _ _ h, ← hv, Array.getElem?_toList]) hu hd (by rw [Array.length_toList]; exact hi)

theorem load_rowAt {w : World} {b : Nat} {pa : Array Value} {T t : TypeId} {d : TypeDesc} (h : w.heap[b]? = some (.cells pa t (0, 0))) (hu : Try.prog.underlying T = some d) (hd : d.isRow = true) (hi : (Try.prog.info? T).map (·.size) = some pa.size) :
    (Instr.loadAt T (.pointer (some ⟨b, 0, none⟩))).run Try.prog w = .ok (.agg pa) w :=
  run_loadAt_mid w b 0 T pa.toList d (fun j v hv => by rw [Nat.zero_add, cell_of_row _ _ _ _ _ _ h, ← hv, Array.getElem?_toList]) hu hd (by rw [Array.length_toList]; exact hi)

theorem bs_one (X : List Nat) : (bs X).toArray.all (·.oneCell') = true := by
  rw [Array.all_eq_true_iff_forall_mem]
  intro v hv
  obtain ⟨y, _, rfl⟩ := List.mem_map.1 (List.mem_toArray.1 hv)
  rfl

theorem bs_size (X : List Nat) : (bs X).toArray.size = X.length := by simp [bs]

theorem But.setsT {g : Nat} {w : World} (vs : List Value) (o : Nat) : But g w (w.setCells g o vs) := by
  induction vs generalizing o w with
  | nil => exact But.refl _ _
  | cons v vs ih => rw [World.setCells]; exact (But.set g o w v).trans (ih _)

theorem copied_any (v : Value) (L : List Nat) (w : World) (hv : SeesB w v L) (hl : L.length ≤ 1099511627776) :
    Calls Try.prog 28 #[v] w fun e w' => ∃ g k, e = .returned (.slice (some ⟨g, 0, none⟩) k k) ∧ k = L.length ∧ Blk w' g L ∧ w.heap.size ≤ g ∧ Below w.heap.size w w' := by
  obtain ⟨ao, n, cap, rfl, HN, hn1, hn2⟩ := hv.shape
  have hn : n ≤ 1099511627776 := by rw [HN.out]; exact hl
  have hmk : ∀ u : World, (Instr.makeSlice 25 (.int .i64 (n : Int)) (.int .i64 (n : Int))).run Try.prog u = .ok (.slice (some ⟨u.heap.size, 0, none⟩) n n) (u.alloc (.cells (madeCells #[.int .u8 0] n) 5)) := make_bytes n (by omega)
  have HV := hid hv
  have HLN := hid HN.out.symm
  clear hv hl
  go_enter Try.func28, Try.ntmps28
  go_wp2_with (first | (refine wpList_copy_splice rfl (.tmp 7) (.tmp 8) 25 25 rfl 5 Try.underlying25 size5 _ _ n n n cap rfl rfl w.heap.size 0 (madeCells #[.int .u8 0] n).toList 5 ?c1 (bs L) ?c2 ?c3 ?c4 ?c5 w.heap.size w ?c6 ?c7 ?_) | fail)
  case c1 => rw [Array.toArray_toList]; exact heap_alloc_new w _
  case c2 => show (bs _).length = min n n; rw [Nat.min_self, bs, List.length_map]; exact HLN.out
  case c3 => exact fun hp => (HV.out.below ((Below.refl _ _).alloc (Nat.le_refl _) _)).src hp
  case c4 => rw [bs, List.length_map, HLN.out, Array.length_toList, size_madeCells]; omega
  case c5 => intro q hq; obtain ⟨y, _, rfl⟩ := List.mem_map.1 hq; rfl
  case c6 => exact (Below.refl _ _).alloc (Nat.le_refl _) _
  case c7 => exact Nat.le_refl _
  intro w3 HG hb3
  rw [splice_whole (by rw [bs, List.length_map, HLN.out, Array.length_toList, size_madeCells])] at HG
  have HB3 := hid hb3
  clear hb3
  go_wp2_with fail
  go_ret
  exact ⟨_, _, rfl, HN.out, HG.out, Nat.le_refl _, HB3.out⟩

theorem join_any (v1 v2 : Value) (L1 L2 : List Nat) (w : World) (h1 : SeesB w v1 L1) (h2 : SeesB w v2 L2) (hl : L1.length + L2.length ≤ 1099511627776) :
    Calls Try.prog 26 #[v1, v2] w fun e w' => ∃ g k, e = .returned (.slice (some ⟨g, 0, none⟩) k k) ∧ k = (L1 ++ L2).length ∧ Blk w' g (L1 ++ L2) ∧ w.heap.size ≤ g ∧ Below w.heap.size w w' := by
  obtain ⟨ao, n, cap, rfl, HN, hn1, hn2⟩ := h1.shape
  obtain ⟨bo, m, bcap, rfl, HM, hm1, hm2⟩ := h2.shape
  have hnm : n + m ≤ 1099511627776 := by rw [HN.out, HM.out]; exact hl
  obtain ⟨k, hk⟩ : ∃ k, k = n + m := ⟨_, rfl⟩
  have hmk : ∀ u : World, (Instr.makeSlice 25 (.int .i64 ((n : Int) + (m : Int))) (.int .i64 ((n : Int) + (m : Int)))).run Try.prog u = .ok (.slice (some ⟨u.heap.size, 0, none⟩) k k) (u.alloc (.cells (madeCells #[.int .u8 0] k) 5)) := by
    rw [show (n : Int) + (m : Int) = (k : Int) by omega]
    exact make_bytes k (by omega)
  obtain ⟨a8, HA8, k8⟩ := cut_end w.heap.size k n n rfl (by omega)
  have HV1 := hid h1
  have HV2 := hid h2
  have HLN := hid HN.out.symm
  have HLM := hid HM.out.symm
  have HK := hid hk
  have hkn : n ≤ k := by omega
  obtain ⟨X1, hX1⟩ : ∃ X1, X1 = bs L1 := ⟨_, rfl⟩
  obtain ⟨X2, hX2⟩ : ∃ X2, X2 = bs L2 := ⟨_, rfl⟩
  obtain ⟨Z, hZ⟩ : ∃ Z, Z = (madeCells #[.int .u8 0] k).toList := ⟨_, rfl⟩
  have HX1 := hid hX1
  have HX2 := hid hX2
  have HZ := hid hZ
  have HZL : Hid (Z.length = k) := by unfold Hid; rw [hZ, Array.length_toList, size_madeCells]
  have HL1 : Hid (X1.length = n) := by unfold Hid; rw [hX1, bs, List.length_map]; exact HLN.out
  have HL2 : Hid (X2.length = m) := by unfold Hid; rw [hX2, bs, List.length_map]; exact HLM.out
  have HO1 : Hid (∀ v ∈ X1, v.oneCell' = true) := fun v hv => by rw [hX1] at hv; obtain ⟨y, _, rfl⟩ := List.mem_map.1 hv; rfl
  have HO2 : Hid (∀ v ∈ X2, v.oneCell' = true) := fun v hv => by rw [hX2] at hv; obtain ⟨y, _, rfl⟩ := List.mem_map.1 hv; rfl
  have HP1 : Hid (∀ u, Below w.heap.size w u → 0 < X1.length → ∃ ad, ao = some ad ∧ ∀ j v, X1[j]? = some v → u.cell? (ad.add j) = some v) := fun u hu hp => by
    rw [HX1.out] at hp ⊢
    exact (HV1.out.below hu).src hp
  have HP2 : Hid (∀ u, Below w.heap.size w u → 0 < X2.length → ∃ ad, bo = some ad ∧ ∀ j v, X2[j]? = some v → u.cell? (ad.add j) = some v) := fun u hu hp => by
    rw [HX2.out] at hp ⊢
    exact (HV2.out.below hu).src hp
  clear h1 h2 hl hk hX1 hX2 hZ
  go_enter Try.func26, Try.ntmps26
  go_wp2_with (first | (refine wpList_copy_splice rfl (.tmp 12) (.tmp 13) 25 25 rfl 5 Try.underlying25 size5 _ _ k k n cap rfl rfl w.heap.size 0 Z 5 ?c1 X1 ?c2 ?c3 ?c4 HO1.out w.heap.size w ?c6 (Nat.le_refl _) ?_) | fail)
  case c1 => rw [HZ.out, Array.toArray_toList]; exact heap_alloc_new w _
  case c2 => rw [HL1.out]; show n = min n k; omega
  case c3 => exact fun hp => HP1.out _ ((Below.refl _ _).alloc (Nat.le_refl _) _) hp
  case c4 => rw [HL1.out, HZL.out]; omega
  case c6 => exact (Below.refl _ _).alloc (Nat.le_refl _) _
  intro w3 HG hb3
  have HB3 := hid hb3
  clear hb3
  go_wp2_with (first | (refine wpList_copy_splice rfl (.tmp 18) (.tmp 19) 25 25 rfl 5 Try.underlying25 size5 a8 bo (k - n) (k - n) m bcap rfl rfl w.heap.size n (splice Z 0 X1) 5 HG.out X2 ?d2 ?d3 ?d4 HO2.out w.heap.size w HB3.out (Nat.le_refl _) ?_) | fail)
  case d2 => rw [HL2.out]; show m = min m (k - n); have := HK.out; omega
  case d3 => exact fun hp => ⟨HA8.out (by have := HL2.out; have := HK.out; omega), HP2.out _ HB3.out hp⟩
  case d4 => rw [HL2.out, length_splice _ _ _ (by rw [HL1.out, HZL.out]; omega), HZL.out]; have := HK.out; omega
  intro w4 HG4 hb4
  have HB4 := hid hb4
  have e : splice (splice Z 0 X1) n X2 = bs (L1 ++ L2) := by
    have h1 := HL1.out
    have h2 := HL2.out
    have h3 := HZL.out
    have h4 := HK.out
    have e1 : splice Z 0 X1 = X1 ++ Z.drop n := by unfold splice; rw [List.take_zero, List.nil_append, h1, Nat.zero_add]
    rw [e1]
    unfold splice
    rw [List.take_left' h1, List.drop_eq_nil_of_le (by rw [List.length_append, List.length_drop]; omega), List.append_nil, HX1.out, HX2.out]
    unfold bs
    rw [List.map_append]
  rw [e] at HG4
  clear hb4 e
  go_wp2_with fail
  go_ret
  exact ⟨_, _, rfl, by rw [List.length_append, HLN.out, HLM.out]; exact HK.out, HG4.out, Nat.le_refl _, HB4.out⟩

def Z12 : Array Value := #[.int .u8 0, .int .u8 0, .int .u8 0, .int .u8 0, .int .u8 0, .int .u8 0, .int .u8 0, .int .u8 0, .int .u8 0, .int .u8 0, .int .u8 0, .int .u8 0]
def Z8 : Array Value := #[.int .u8 0, .int .u8 0, .int .u8 0, .int .u8 0, .int .u8 0, .int .u8 0, .int .u8 0, .int .u8 0]

theorem pseudoOf_any (src dst len : Nat) (w : World) (hs : src < 4294967296) (hd : dst < 4294967296) (hl : len < 65536) :
    Calls Try.prog 23 #[.int .u32 (src : Int), .int .u32 (dst : Int), .int .u16 (len : Int)] w fun e w' => e = .returned (.agg (bs (Tn.pseudo src dst len)).toArray) ∧ Below w.heap.size w w' := by
  obtain ⟨w1, hw1⟩ : ∃ w1, w1 = w.alloc (.cells Z12 71) := ⟨_, rfl⟩
  obtain ⟨w2, hw2⟩ : ∃ w2, w2 = w1.alloc (.cells Z12 71) := ⟨_, rfl⟩
  have hs1 : w1.heap.size = w.heap.size + 1 := by rw [hw1]; simp
  have hs2 : w2.heap.size = w.heap.size + 2 := by rw [hw2]; simp [hs1]
  have hb1 : Below w.heap.size w w1 := by rw [hw1]; exact (Below.refl _ _).alloc (Nat.le_refl _) _
  have hb2 : Below w.heap.size w w2 := by rw [hw2]; exact hb1.alloc (by omega) _
  have hr1 : w1.heap[w.heap.size]? = some (.cells Z12 71 (0, 0)) := by rw [hw1]; exact heap_alloc_new w _
  have hr2 : w2.heap[w.heap.size]? = some (.cells Z12 71 (0, 0)) := by rw [hw2, heap_alloc_old _ _ (by omega)]; exact hr1
  have hB2 : BlkT 71 w2 (w.heap.size + 1) [0, 0, 0, 0, 0, 0, 0, 0, 0, 0, 0, 0] := by
    rw [hw2, ← hs1]; exact heap_alloc_new w1 _
  obtain ⟨g, hg⟩ : ∃ g, g = w.heap.size + 1 := ⟨_, rfl⟩
  rw [← hg] at hB2
  have HR : Hid (∀ u, But g w2 u → u.heap[w.heap.size]? = some (.cells Z12 71 (0, 0))) := fun u hu => (hu.block _ (by omega) (by omega)).trans hr2
  have HBW : Hid (∀ u, But g w2 u → Below w.heap.size w u) := fun u hu => hu.below hb2 (by omega) (by omega)
  have X1 := hid (twrite32_any 71 g 0 12 src _ w2 hB2 (by simp) hs)
  have HX2 : Hid (∀ (u : World) (A : List Nat), A.length = 12 → BlkT 71 u g A → Calls Try.prog 52 #[.slice (some ⟨g, 4, none⟩) 4 8, .int .u32 (dst : Int)] u fun e w' => e = .returned (.tuple #[]) ∧ BlkT 71 w' g ((((A.set 4 (dst / 16777216 % 256)).set (4 + 1) (dst / 65536 % 256)).set (4 + 2) (dst / 256 % 256)).set (4 + 3) (dst % 256)) ∧ But g u w') := fun u A hA hB => twrite32_any 71 g 4 8 dst A u hB (by omega) hd
  have HX3 : Hid (∀ (u : World) (A : List Nat), A.length = 12 → BlkT 71 u g A → Calls Try.prog 22 #[.slice (some ⟨g, 10, none⟩) 2 2, .int .u16 (len : Int)] u fun e w' => e = .returned (.tuple #[]) ∧ BlkT 71 w' g ((A.set 10 (len / 256 % 256)).set (10 + 1) (len % 256)) ∧ But g u w') := fun u A hA hB => twrite16_any 71 g 10 2 len A u hB (by omega) hl
  have HW1 : Hid (w1 = w.alloc (.cells Z12 71)) := hw1
  have HW2 : Hid (w2 = w1.alloc (.cells Z12 71)) := hw2
  unfold Z12 at HW1 HW2
  have HG : Hid (w1.heap.size = g) := by unfold Hid; omega
  clear hg hs2
  clear hw1 hw2 hr1 hr2 hb1 hb2 hB2 hs1
  go_enter Try.func23, Try.ntmps23
  go_upto_region 1 with fail
  rw [← HW1.out]
  go_upto_region 2 with fail
  rw [← HW2.out, HG.out]
  go_wp2_with fail
  refine X1.out.mono ?_
  rintro _ w3 ⟨rfl, hB3, hu3⟩
  have X2 := hid (HX2.out w3 _ (by simp) hB3)
  have HU3 := hid hu3
  clear hB3 hu3 X1 HX2
  go_wp2_with fail
  refine X2.out.mono ?_
  rintro _ w4 ⟨rfl, hB4, hu4⟩
  have hB4' := hB4.set 9 17
  have hu4' := But.set g 9 w4 (.int .u8 ((17 : Nat) : Int))
  have c9 := hB4.cell 9 (by simp)
  have f9 := hB4.free 9
  generalize byt _ 9 = y9 at c9
  have X3 := hid (HX3.out _ _ (by simp) hB4')
  have HU4 := hid ((HU3.out.trans hu4).trans hu4')
  clear hB4 hu4 hB4' hu4' X2 HX3
  go_wp2_with fail
  refine X3.out.mono ?_
  rintro _ w5 ⟨rfl, hB5, hu5⟩
  have hu := HU4.out.trans hu5
  have eL : ((((((((((([0, 0, 0, 0, 0, 0, 0, 0, 0, 0, 0, 0] : List Nat).set 0 (src / 16777216 % 256)).set (0 + 1) (src / 65536 % 256)).set (0 + 2) (src / 256 % 256)).set (0 + 3) (src % 256)).set 4 (dst / 16777216 % 256)).set (4 + 1) (dst / 65536 % 256)).set (4 + 2) (dst / 256 % 256)).set (4 + 3) (dst % 256)).set 9 17).set 10 (len / 256 % 256)).set (10 + 1) (len % 256) = Tn.pseudo src dst len := rfl
  rw [eL] at hB5
  have hpl : (Tn.pseudo src dst len).length = 12 := rfl
  obtain ⟨pa, hpa⟩ : ∃ pa, pa = (bs (Tn.pseudo src dst len)).toArray := ⟨_, rfl⟩
  have hps : pa.size = 12 := by rw [hpa, bs_size, hpl]
  have HI : Hid ((Try.prog.info? 71).map (·.size) = some pa.size) := by unfold Hid; rw [hps]; kernel_rfl
  have HLD : Hid ((Instr.loadAt 71 (.pointer (some ⟨g, 0, none⟩))).run Try.prog w5 = .ok (.agg pa) w5) := by
    refine load_rowAt (t := 71) (d := .array 12 5) ?_ Try.underlying71 rfl HI.out
    rw [hpa]; exact hB5
  have hr5 := HR.out _ hu
  have HTH : Hid (w5.there w.heap.size 0 pa.size) := there_blk hr5 (by rw [hps]; rfl)
  have HONE : Hid (pa.all (·.oneCell') = true) := by unfold Hid; rw [hpa]; exact bs_one _
  have HLV : Hid ((loadVar 71 ⟨w.heap.size, 0, none⟩).run Try.prog (w5.setCells w.heap.size 0 pa.toList) = .ok (.agg pa) (w5.setCells w.heap.size 0 pa.toList)) :=
    load_row (t := 71) (d := .array 12 5) (row_put hr5 (by rw [hps]; rfl)) Try.underlying71 rfl HI.out
  have HBF : Hid (Below w.heap.size w (w5.setCells w.heap.size 0 pa.toList)) := below_setCells' (Nat.le_refl _) _ _ _ (HBW.out _ hu)
  have HPA := hid hpa
  clear hB5 hu5 hu hpa hps hr5 eL X3 HU4 HU3 hpl
  go_wp2_with (first
    | (refine wpList_ld 71 ⟨g, 0, none⟩ _ rfl rfl HLD.out rfl ?_)
    | (refine wpList_store_mid rfl 71 (.tmp 6) (.tmp 18) rfl w.heap.size 0 pa rfl rfl HTH.out HI.out HONE.out ?_)
    | fail)
  generalize w5.setCells w.heap.size 0 pa.toList = wf at HLV HBF ⊢
  refine bodyPost_ret (v := .agg pa) (by simp [results, Try.results23, asAddr, Act.put, HLV.out]) rfl ?_
  exact ⟨by rw [HPA.out], HBF.out⟩

/-- A tunnel header. -/
def vxH (vni : Nat) : List Nat := [8, 0, 0, 0, vni / 65536 % 256, vni / 256 % 256, vni % 256, 0]

theorem headOf_any (vni : Nat) (w : World) (hv : vni < 16777216) :
    Calls Try.prog 48 #[.int .u32 (vni : Int)] w fun e w' => e = .returned (.agg (bs (vxH vni)).toArray) ∧ Below w.heap.size w w' := by
  obtain ⟨w1, hw1⟩ : ∃ w1, w1 = w.alloc (.cells Z8 69) := ⟨_, rfl⟩
  obtain ⟨w2, hw2⟩ : ∃ w2, w2 = w1.alloc (.cells Z8 69) := ⟨_, rfl⟩
  have hs1 : w1.heap.size = w.heap.size + 1 := by rw [hw1]; simp
  have hs2 : w2.heap.size = w.heap.size + 2 := by rw [hw2]; simp [hs1]
  have hb1 : Below w.heap.size w w1 := by rw [hw1]; exact (Below.refl _ _).alloc (Nat.le_refl _) _
  have hb2 : Below w.heap.size w w2 := by rw [hw2]; exact hb1.alloc (by omega) _
  have hr1 : w1.heap[w.heap.size]? = some (.cells Z8 69 (0, 0)) := by rw [hw1]; exact heap_alloc_new w _
  have hr2 : w2.heap[w.heap.size]? = some (.cells Z8 69 (0, 0)) := by rw [hw2, heap_alloc_old _ _ (by omega)]; exact hr1
  have hB2 : BlkT 69 w2 (w.heap.size + 1) [0, 0, 0, 0, 0, 0, 0, 0] := by
    rw [hw2, ← hs1]; exact heap_alloc_new w1 _
  obtain ⟨g, hg⟩ : ∃ g, g = w.heap.size + 1 := ⟨_, rfl⟩
  rw [← hg] at hB2
  have HR : Hid (∀ u, But g w2 u → u.heap[w.heap.size]? = some (.cells Z8 69 (0, 0))) := fun u hu => (hu.block _ (by omega) (by omega)).trans hr2
  have HBW : Hid (∀ u, But g w2 u → Below w.heap.size w u) := fun u hu => hu.below hb2 (by omega) (by omega)
  have hB3 := hB2.set 0 8
  have hu3 := But.set g 0 w2 (.int .u8 ((8 : Nat) : Int))
  have c0 := hB2.cell 0 (by simp)
  have f0 := hB2.free 0
  generalize byt _ 0 = y0 at c0
  have X1 := hid (twrite24_any 69 g 4 4 vni _ _ hB3 (by simp) hv)
  have HW1 : Hid (w1 = w.alloc (.cells Z8 69)) := hw1
  have HW2 : Hid (w2 = w1.alloc (.cells Z8 69)) := hw2
  unfold Z8 at HW1 HW2
  have HG : Hid (w1.heap.size = g) := by unfold Hid; omega
  clear hg hs2
  have HU3 := hid hu3
  clear hw1 hw2 hr1 hr2 hb1 hb2 hB2 hs1 hB3 hu3
  go_enter Try.func48, Try.ntmps48
  go_upto_region 1 with fail
  rw [← HW1.out]
  go_upto_region 2 with fail
  rw [← HW2.out, HG.out]
  go_wp2_with fail
  refine X1.out.mono ?_
  rintro _ w5 ⟨rfl, hB5, hu5⟩
  have hu := HU3.out.trans hu5
  have eL : (((([0, 0, 0, 0, 0, 0, 0, 0] : List Nat).set 0 8).set 4 (vni / 65536 % 256)).set (4 + 1) (vni / 256 % 256)).set (4 + 2) (vni % 256) = vxH vni := rfl
  rw [eL] at hB5
  have hpl : (vxH vni).length = 8 := rfl
  obtain ⟨pa, hpa⟩ : ∃ pa, pa = (bs (vxH vni)).toArray := ⟨_, rfl⟩
  have hps : pa.size = 8 := by rw [hpa, bs_size, hpl]
  have HI : Hid ((Try.prog.info? 69).map (·.size) = some pa.size) := by unfold Hid; rw [hps]; kernel_rfl
  have HLD : Hid ((Instr.loadAt 69 (.pointer (some ⟨g, 0, none⟩))).run Try.prog w5 = .ok (.agg pa) w5) := by
    refine load_rowAt (t := 69) (d := .array 8 5) ?_ Try.underlying69 rfl HI.out
    rw [hpa]; exact hB5
  have hr5 := HR.out _ hu
  have HTH : Hid (w5.there w.heap.size 0 pa.size) := there_blk hr5 (by rw [hps]; rfl)
  have HONE : Hid (pa.all (·.oneCell') = true) := by unfold Hid; rw [hpa]; exact bs_one _
  have HLV : Hid ((loadVar 69 ⟨w.heap.size, 0, none⟩).run Try.prog (w5.setCells w.heap.size 0 pa.toList) = .ok (.agg pa) (w5.setCells w.heap.size 0 pa.toList)) :=
    load_row (t := 69) (d := .array 8 5) (row_put hr5 (by rw [hps]; rfl)) Try.underlying69 rfl HI.out
  have HBF : Hid (Below w.heap.size w (w5.setCells w.heap.size 0 pa.toList)) := below_setCells' (Nat.le_refl _) _ _ _ (HBW.out _ hu)
  have HPA := hid hpa
  clear hB5 hu5 hu hpa hps hr5 eL X1 HU3 hpl
  go_wp2_with (first
    | (refine wpList_ld 69 ⟨g, 0, none⟩ _ rfl rfl HLD.out rfl ?_)
    | (refine wpList_store_mid rfl 69 (.tmp 2) (.tmp 8) rfl w.heap.size 0 pa rfl rfl HTH.out HI.out HONE.out ?_)
    | fail)
  generalize w5.setCells w.heap.size 0 pa.toList = wf at HLV HBF ⊢
  refine bodyPost_ret (v := .agg pa) (by simp [results, Try.results48, asAddr, Act.put, HLV.out]) rfl ?_
  exact ⟨by rw [HPA.out], HBF.out⟩
end Go.Proofs.Ytcelcnafcfefhaa.N
