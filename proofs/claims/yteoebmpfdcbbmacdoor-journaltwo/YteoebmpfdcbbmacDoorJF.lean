/-
  putHead, baseLen, headFits, frameFits.
-/
import Derived.Test.YteoebmpfdcbbmacDoorJE
namespace Go.Proofs.YteoebmpfdcbbmacDoor
open Go.ChangeShapes Go.WideShapes Go.ChangeAt Go.RowKit Jn
set_option maxHeartbeats 2000000
set_option maxRecDepth 100000

theorem cut_hi (g off n cap m : Nat) (i : Int) (hi : i = m) (hm : m ≤ cap) (u : World) : (Instr.sliceAt 22 (.slice (some ⟨g, off, none⟩) n cap) none (some (.int .i64 i)) none).run Tryd.prog u = .ok (.slice (some ⟨g, off, none⟩) m cap) u := by
  subst hi
  have hu : Tryd.prog.underlying 22 = some (.slice (Tryd.prog.elem 22)) := by kernel_rfl
  have hsz : (sizeOf (Tryd.prog.elem 22)).run Tryd.prog u = .ok 1 u := by kernel_rfl
  rw [run_sliceAt_slice (h := hu), run_slice_h (ht := hu) (h0 := by omega) (h2 := by omega), hsz]
  simp [Result.andThen, sliced, Addr.add]

theorem Blk.front {w : World} {g m cap : Nat} {T : TypeId} {X : List Nat} (h : Blk w g T X) (hm : m ≤ X.length) (hc : X.length ≤ cap) (hcm : cap ≤ 1099511627776) (hx : ∀ x ∈ X.take m, x < 256) : SeesB w (.slice (some ⟨g, 0, none⟩) m cap) (X.take m) := by
  have hl : (X.take m).length = m := by rw [List.length_take]; omega
  refine ⟨some ⟨g, 0, none⟩, cap, by rw [hl], ⟨by omega, fun h => by cases h⟩, by unfold maxLen; omega, fun j hj => ⟨g, 0, rfl, h.lt, ?_, hx _ (List.getElem_mem hj)⟩⟩
  rw [Nat.zero_add, cell_of_row _ _ _ _ _ _ h]
  rw [hl] at hj
  have : j < X.length := by omega
  simp [bs, this]

theorem front_lt (g base : Nat) : ∀ x ∈ front g base, x < 256 := by
  intro x hx
  simp only [front, List.mem_append] at hx
  rcases hx with (hx | hx) | hx
  · simp at hx; omega
  · exact w4_lt _ x hx
  · exact w4_lt _ x hx

/-- A head is laid into a block of the caller's. -/
theorem putHead_any (g n ge base : Nat) (T : TypeId) (X : List Nat) (w : World) (hB : Blk w g T X) (hg0 : 0 < g) (ht : TabN w) (hn : n = X.length) (h16 : 16 ≤ n) (hcm : n ≤ 1099511627776) (hge : ge < 4294967296) (hba : base < 4294967296) :
    Calls Tryd.prog 63 #[.slice (some ⟨g, 0, none⟩) n n, .int .u32 (ge : Int), .int .u32 (base : Int)] w fun e w' => e = .returned (.tuple #[]) ∧ Blk w' g T (splice X 0 (head ge base)) ∧ Keeps (At1 g) w w' := by
  have HN := hid hn
  have hglt := hB.lt
  obtain ⟨w1, HW1⟩ : ∃ w1, Hid (w1 = w.alloc (.cells #[.int .u32 2003134068, .int .u32 (ge : Int), .int .u32 (base : Int)] 67)) := ⟨_, rfl⟩
  have hb1 : Below w.heap.size w w1 := by rw [HW1.out]; exact (Below.refl _ _).alloc (Nat.le_refl _) _
  have hN : w1.heap[w.heap.size]? = some (.cells (u32s [2003134068, ge, base]).toArray 67 (0, 0)) := by rw [HW1.out]; exact heap_alloc_new w _
  have H1 := hid (putWords_any g 0 n n w.heap.size 3 T _ X [2003134068, ge, base] w1 (hB.below hb1 hglt) hN rfl (by omega) (by simp; omega) (Nat.le_refl _) hcm (by omega) (by intro x hx; simp at hx; omega))
  have HE1 : Hid (puts4 X 0 [2003134068, ge, base] = front ge base ++ X.drop 12) := by
    unfold Hid
    rw [puts4_eq _ _ _ (by simp; omega)]
    simp [front, show w4 2003134068 = [119, 101, 102, 116] from rfl]
  have HB1 := hid hb1
  have HT := hid (ht.below hb1 ht.2)
  have hcl := crc_lt (front ge base)
  have HF : Hid (puts4 (front ge base ++ X.drop 12) 12 [crc (front ge base)] = splice X 0 (head ge base)) := by
    unfold Hid
    rw [puts4_eq _ _ _ (by simp [front, w4_len]; omega), List.take_left' (by rfl)]
    have e : (front ge base ++ X.drop 12).drop (12 + 4 * 1) = X.drop 16 := by
      rw [List.drop_append, List.drop_of_length_le (by show 12 ≤ _; omega), List.nil_append, List.drop_drop]
      rfl
    rw [show [crc (front ge base)].length = 1 from rfl, e]
    simp [splice, head, w4_len, front]
  have hcl2 : (front ge base ++ X.drop 12).length = n := by
    rw [List.length_append, List.length_drop, show (front ge base).length = 12 from rfl]; omega
  have HCL2 := hid hcl2
  clear hB hn hN hb1 ht hcl2
  go_enter Tryd.func63, Tryd.ntmps63
  go_wp2_with fail
  rw [← HW1.out]
  refine H1.out.mono ?_
  rintro _ w2 ⟨rfl, hb2, hk2⟩
  rw [HE1.out] at hb2
  have h0g : (0 : Nat) ≠ g := by omega
  have hsz := HB1.out.size
  have ht2 : TabN w2 := ⟨fun j hj => (World.cell?_of_block (w := w1) (a := ⟨0, j, none⟩) (hk2.block 0 HT.out.2 h0g)).trans (HT.out.1 j hj), Nat.lt_of_lt_of_le HT.out.2 hk2.size⟩
  have hs2 := hb2.front (m := 12) (cap := n) (by rw [HCL2.out]; omega) (by rw [HCL2.out]; omega) hcm (by rw [List.take_left' (show (front ge base).length = 12 from rfl)]; exact front_lt _ _)
  rw [List.take_left' (show (front ge base).length = 12 from rfl)] at hs2
  have H2 : Hid (∀ u, Below w2.heap.size w2 u → Calls Tryd.prog 67 #[.slice (some ⟨g, 0, none⟩) 12 n] u fun e w' => e = .returned (.int .u32 ((crc (front ge base) : Nat) : Int)) ∧ w' = u) := fun u hu => sumOf_any _ _ u (hs2.below hu) (ht2.below hu ht2.2)
  have HB2 := hid hb2
  have HK2 : Hid (Keeps (At1 g) w w2) := (Keeps.of HB1.out).trans hk2
  have c1 := cut_at g 0 n n 12 12 rfl (by omega) (by omega)
  have c2 := cut_hi g 0 n n 12 12 rfl (by omega)
  rw [Nat.zero_add] at c1
  have hgl2 := hb2.lt
  obtain ⟨cr, HCR⟩ : ∃ cr, Hid (cr = crc (front ge base)) := ⟨_, rfl⟩
  rw [← HCR.out] at H2 hcl
  have H3 : Hid (∀ u, Below w2.heap.size w2 u → u.heap[w2.heap.size]? = some (.cells (u32s [cr]).toArray 67 (0, 0)) → Calls Tryd.prog 68 #[.slice (some ⟨g, 12, none⟩) (n - 12) (n - 12), .slice (some ⟨w2.heap.size, 0, none⟩) 1 1] u fun e w' => e = .returned (.tuple #[]) ∧ Blk w' g T (splice X 0 (head ge base)) ∧ Keeps (At1 g) w w') := fun u hu hN => by
    refine (putWords_any g 12 (n - 12) (n - 12) w2.heap.size 1 T _ _ [cr] u (HB2.out.below hu hgl2) hN rfl (by omega) (by simp; omega) (Nat.le_refl _) (by omega) (by rw [HCL2.out]; omega) (by intro x hx; simp at hx; omega)).mono ?_
    rintro e w4 ⟨rfl, hb4, hk4⟩
    rw [HCR.out, HF.out] at hb4
    exact ⟨rfl, hb4, HK2.out.trans ((Keeps.of hu).trans hk4)⟩
  clear hb2 hk2 ht2 hs2 H1
  go_upto_region 1 with fail
  go_region_with (first | (go_at_call 67; refine (H2.out _ ?_).mono ?_; exact below_drew (Below.refl _ _); rintro _ w5 ⟨rfl, rfl⟩) | (go_at_call 68; refine (H3.out _ ?_ ?_).mono ?_; exact below_drew ((Below.refl _ _).alloc (Nat.le_refl _) _); exact heap_alloc_new w2 _; rintro _ w4 ⟨rfl, hb4, hk4⟩) | fail)
  all_goals (
    go_wp2_with fail
    exact bodyPost_end (results_none Tryd.results63 _ _ _) rfl ⟨rfl, hb4, hk4⟩)

theorem baseL_le {rs : List (List Nat)} (h : ∀ r ∈ rs, r.length ≤ 65536) : baseL rs ≤ 65548 * rs.length := by
  induction rs with
  | nil => simp [baseL]
  | cons r rs ih =>
    have h1 := ih fun x hx => h x (by simp [hx])
    have h2 := h r (by simp)
    simp [baseL] at *
    omega

theorem baseLen_any (v : Value) (rs : List (List Nat)) (w : World) (hv : SeesBB w v rs) (hl : rs.length ≤ 8796093022208) (hr : ∀ r ∈ rs, r.length ≤ 65536) :
    Calls Tryd.prog 55 #[v] w fun e w' => e = .returned (.int .i64 ((baseL rs : Nat) : Int)) ∧ w' = w := by
  obtain ⟨ao, n, cap, rfl, HN, hn1, hn2⟩ := hv.shape
  have hn : n ≤ 8796093022208 := by have := HN.out; omega
  have HV := hid hv
  have HR := hid hr
  have HT : Hid (∀ k, baseL (rs.take k) ≤ 576582705658691584) := fun k => by
    have h1 := baseL_le (rs := rs.take k) (fun r hx => hr r (List.mem_of_mem_take hx))
    have h2 : (rs.take k).length ≤ rs.length := by rw [List.length_take]; omega
    omega
  clear hv hl hr
  unfold maxLen at hn2
  go_enter Tryd.func55, Tryd.ntmps55
  go_wp2_with fail
  go_loop [3, 8] (fun t i => ∃ (k s : Nat), i = .int .i64 k ∧ k ≤ n ∧ t = .int .i64 s ∧ Hid (s = baseL (rs.take k))) (fun _ i => n - (intOf i).toNat)
  case atStart => exact ⟨0, 0, rfl, by omega, rfl, rfl⟩
  case round =>
    obtain ⟨k, s, rfl, hk, rfl, HS⟩ := hrel
    have hs : s ≤ 576582705658691584 := by have := HT.out k; have := HS.out; omega
    by_cases hlt : k < n
    · obtain ⟨g, off, x, l, rfl, hg, hc, hx, HX⟩ := HV.out.at k hlt
      have hll := HR.out l (List.mem_of_getElem? HX.out)
      have H1 := hid (framed_any x l w hx (by omega))
      have HS2 : Hid (baseL (rs.take (k + 1)) = s + (12 + l.length)) := by
        unfold Hid; rw [take_snoc HX.out, baseL_append, ← HS.out]; simp [baseL]
      have hs2 : s + (12 + l.length) ≤ 576582705658691584 := by have := HT.out (k + 1); have := HS2.out; omega
      obtain ⟨ax, nx, cx, rfl, -, -, -⟩ := hx.shape
      generalize 12 + l.length = m at *
      clear HS hx HX hll
      go_wp2_with fail
      refine H1.out.mono ?_
      rintro _ w1 ⟨rfl, rfl⟩
      go_wp2_with fail
      go_round
      case rel => exact ⟨k + 1, s + m, by go_num, by omega, by go_num, HS2.out.symm⟩
      case measure => simp [intOf]; omega
    · have HE : Hid (s = baseL rs) := by
        have := HS.out
        rw [List.take_of_length_le (by have := HN.out; omega)] at this
        exact this
      go_wp2_with fail
      go_ret
      exact ⟨ret_int (by rw [HE.out]), rfl⟩

theorem frameFits_any (v : Value) (L : List Nat) (g k : Nat) (w : World) (hv : SeesB w v L) (hl : 12 ≤ L.length) (hg : g < 4294967296) (hk : k < 4294967296) (ht : TabN w) :
    Calls Tryd.prog 70 #[v, .int .u32 (g : Int), .int .u32 (k : Int)] w fun e w' => e = .returned (.bool (fits g k L)) ∧ Below w.heap.size w w' := by
  have n0 := num_lt hv.bytes 0
  have n4 := num_lt hv.bytes 4
  have n8 := num_lt hv.bytes 8
  have H0 : Hid (∀ u, Below w.heap.size w u → Calls Tryd.prog 60 #[v, .int .i64 0] u fun e w' => e = .returned (.int .u32 ((num L 0 : Nat) : Int)) ∧ Below u.heap.size u w') := fun u hu => word_any v L 0 u (hv.below hu) (by omega)
  have H4 : Hid (∀ u, Below w.heap.size w u → Calls Tryd.prog 60 #[v, .int .i64 4] u fun e w' => e = .returned (.int .u32 ((num L 4 : Nat) : Int)) ∧ Below u.heap.size u w') := fun u hu => word_any v L 4 u (hv.below hu) (by omega)
  have H8 : Hid (∀ u, Below w.heap.size w u → Calls Tryd.prog 60 #[v, .int .i64 8] u fun e w' => e = .returned (.int .u32 ((num L 8 : Nat) : Int)) ∧ Below u.heap.size u w') := fun u hu => word_any v L 8 u (hv.below hu) (by omega)
  have HSE : Hid (∀ u, Below w.heap.size w u → Calls Tryd.prog 69 #[.int .u32 (g : Int), .int .u32 (k : Int), .int .u32 ((num L 0 : Nat) : Int), .int .u32 ((num L 4 : Nat) : Int)] u fun e w' => e = .returned (.int .u32 ((sel g k (num L 0) (num L 4) : Nat) : Int)) ∧ Below u.heap.size u w') := fun u hu => seal_any g k _ _ u hg hk n0 n4 (ht.below hu ht.2)
  have hs := crc_lt (w4 g ++ w4 k ++ w4 (num L 0) ++ w4 (num L 4))
  have HR : Hid (fits g k L = (num L 8 == sel g k (num L 0) (num L 4) && decide (num L 0 ≤ 65536))) := rfl
  rw [show crc (w4 g ++ w4 k ++ w4 (num L 0) ++ w4 (num L 4)) = sel g k (num L 0) (num L 4) from rfl] at hs
  generalize fits g k L = R at *
  generalize sel g k (num L 0) (num L 4) = se at *
  generalize num L 0 = a0 at *
  generalize num L 4 = a4 at *
  generalize num L 8 = a8 at *
  obtain ⟨ao, n, cap, rfl, -, -, -⟩ := hv.shape
  clear hv ht
  go_enter Tryd.func70, Tryd.ntmps70
  go_wp2_with fail
  refine (H0.out _ (Below.refl _ _)).mono ?_
  rintro _ w1 ⟨rfl, hb1⟩
  go_wp2_with fail
  refine (H4.out _ hb1).mono ?_
  rintro _ w2 ⟨rfl, hb2⟩
  replace hb2 := hb1.trans (hb2.mono hb1.size)
  clear hb1
  go_wp2_with fail
  refine (H8.out _ hb2).mono ?_
  rintro _ w3 ⟨rfl, hb3⟩
  replace hb3 := hb2.trans (hb3.mono hb2.size)
  clear hb2
  go_wp2_with fail
  refine (HSE.out _ hb3).mono ?_
  rintro _ w4 ⟨rfl, hb4⟩
  replace hb4 := hb3.trans (hb4.mono hb3.size)
  clear hb3
  have HB4 := hid hb4
  clear hb4 H0 H4 H8 HSE
  by_cases h1 : a8 = se
  · subst h1
    by_cases h2 : a0 ≤ 65536
    · go_wp2_with fail
      go_ret
      exact ⟨ret_bool (by rw [HR.out]; simp [h2]; omega), HB4.out⟩
    · go_wp2_with fail
      go_ret
      exact ⟨ret_bool (by rw [HR.out]; simp [h2]; omega), HB4.out⟩
  · have hq : ((a8 : Int) == (se : Int)) = false := by simp; omega
    have hq2 : (a8 == se) = false := by simp; omega
    go_wp2_with fail
    go_ret
    exact ⟨ret_bool (by rw [HR.out, hq2]; simp), HB4.out⟩

theorem headFits_any (v : Value) (L : List Nat) (w : World) (hv : SeesB w v L) (hl : 16 ≤ L.length) (hlm : L.length ≤ 1099511627776) (ht : TabN w) :
    Calls Tryd.prog 59 #[v] w fun e w' => e = .returned (.bool (headOk L)) ∧ Below w.heap.size w w' := by
  obtain ⟨nm, HNM⟩ : ∃ nm : Int → Nat, Hid (nm 0 = num L 0 ∧ nm 12 = num L 12 ∧ nm 8 = num L 8) := ⟨fun i => num L i.toNat, rfl, rfl, rfl⟩
  have HW : ∀ (u : Beh w) (i : Int), (i = 0 ∨ i = 12 ∨ i = 8) → Hid (Calls Tryd.prog 60 #[v, .int .i64 i] u.wd fun e w' => e = .returned (.int .u32 ((nm i : Nat) : Int)) ∧ ∃ u' : Beh w, w' = u'.wd) := by
    rintro u i (rfl | rfl | rfl)
    · rw [HNM.out.1]; exact Calls.beh (word_any v L 0 u.wd (hv.below u.ok) (by omega))
    · rw [HNM.out.2.1]; exact Calls.beh (word_any v L 12 u.wd (hv.below u.ok) (by omega))
    · rw [HNM.out.2.2]; exact Calls.beh (word_any v L 8 u.wd (hv.below u.ok) (by omega))
  have n0 := num_lt hv.bytes 0
  have n12 := num_lt hv.bytes 12
  have n8 := num_lt hv.bytes 8
  rw [← HNM.out.1] at n0
  rw [← HNM.out.2.1] at n12
  rw [← HNM.out.2.2] at n8
  obtain ⟨ao, n, cap, rfl, HN, hn1, hn2⟩ := hv.shape
  unfold maxLen at hn2
  obtain ⟨ao', HS, hcut⟩ := hv.high 12 12 rfl (by have := HN.out; omega)
  have HC : ∀ u : Beh w, Hid (Calls Tryd.prog 67 #[.slice ao' 12 cap] u.wd fun e w' => e = .returned (.int .u32 ((crc (L.take 12) : Nat) : Int)) ∧ ∃ u' : Beh w, w' = u'.wd) := fun u => Calls.beh ((sumOf_any _ _ u.wd (HS.out.below u.ok) (ht.below u.ok ht.2)).mono fun _ _ ⟨a, b⟩ => ⟨a, by rw [b]; exact Below.refl _ _⟩)
  have hcl := crc_lt (L.take 12)
  have HR : Hid (headOk L = (nm 0 == 2003134068 && nm 12 == crc (L.take 12) && decide (nm 8 ≤ 1048560))) := by
    unfold Hid; rw [HNM.out.1, HNM.out.2.1, HNM.out.2.2]; rfl
  generalize headOk L = R at *
  generalize crc (L.take 12) = cr at *
  clear hv ht hlm hl HS HNM
  have k0 : (((nm 0 : Nat) : Int) == 2003134068) = (nm 0 == 2003134068) := by rw [Bool.eq_iff_iff]; simp; omega
  have k12 : (((nm 12 : Nat) : Int) == (cr : Int)) = (nm 12 == cr) := by rw [Bool.eq_iff_iff]; simp; omega
  have k8 : decide (((nm 8 : Nat) : Int) ≤ 1048560) = decide (nm 8 ≤ 1048560) := by rw [decide_eq_decide]; omega
  cases h0 : (nm 0 == 2003134068) with
  | true =>
    rw [h0] at k0 HR
    cases h1 : (nm 12 == cr) with
    | true =>
      rw [h1] at k12 HR
      clear h0 h1
      go_enter Tryd.func59, Tryd.ntmps59
      go_upto_region 2 with fail
      refine wp_region_beh (by kernel_rfl) (by kernel_rfl) ?_
      repeat (go_big_quiet_step (first | (go_at_call 60; refine (HW _ _ ?_).out; simp) | (go_at_call 67; exact (HC _).out)))
      refine wpQuiet_nil ?_
      rintro _ ⟨t, rfl⟩
      have HB := hid t.ok
      go_wp2_with fail
      go_ret
      exact ⟨ret_bool (by rw [HR.out]; simp), HB.out⟩
    | false =>
      rw [h1] at k12 HR
      clear h0 h1
      go_enter Tryd.func59, Tryd.ntmps59
      go_upto_region 2 with fail
      refine wp_region_beh (by kernel_rfl) (by kernel_rfl) ?_
      repeat (go_big_quiet_step (first | (go_at_call 60; refine (HW _ _ ?_).out; simp) | (go_at_call 67; exact (HC _).out)))
      refine wpQuiet_nil ?_
      rintro _ ⟨t, rfl⟩
      have HB := hid t.ok
      go_wp2_with fail
      go_ret
      exact ⟨ret_bool (by rw [HR.out]; simp), HB.out⟩
  | false =>
      rw [h0] at k0 HR
      clear h0
      go_enter Tryd.func59, Tryd.ntmps59
      go_upto_region 2 with fail
      refine wp_region_beh (by kernel_rfl) (by kernel_rfl) ?_
      repeat (go_big_quiet_step (first | (go_at_call 60; refine (HW _ _ ?_).out; simp) | (go_at_call 67; exact (HC _).out)))
      refine wpQuiet_nil ?_
      rintro _ ⟨t, rfl⟩
      have HB := hid t.ok
      go_wp2_with fail
      go_ret
      exact ⟨ret_bool (by rw [HR.out]; simp), HB.out⟩
end Go.Proofs.YteoebmpfdcbbmacDoor
