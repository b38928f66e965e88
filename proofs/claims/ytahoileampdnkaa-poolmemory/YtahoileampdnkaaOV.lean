/-
  pool.New.
-/
import Derived.Test.YtahoileampdnkaaOU
namespace Go.Proofs.Ytahoileampdnkaa
open Go.ChangeShapes Go.WideShapes Go.ChangeAt Go.RowKit Ru N Tri
set_option maxHeartbeats 1000000
set_option maxRecDepth 100000

/-- A list of prefixes, by numbers. -/
def Sees (w : World) (v : Value) (L : List (Nat × Int)) : Prop :=
  ∃ ao cap, v = .slice ao L.length cap ∧ L.length ≤ cap ∧ cap ≤ maxLen ∧
    ∀ j (h : j < L.length), ∃ g off, ao = some ⟨g, off, none⟩ ∧ g < w.heap.size ∧ w.cell? ⟨g, off + j * 2, none⟩ = some (.int .u32 (L[j].1 : Int)) ∧ w.cell? ⟨g, off + j * 2 + 1, none⟩ = some (.int .i64 L[j].2)

theorem Sees.shape {w : World} {v : Value} {L : List (Nat × Int)} (h : Sees w v L) : ∃ ao n cap, v = .slice ao n cap ∧ Hid (n = L.length) ∧ n ≤ cap ∧ cap ≤ maxLen := by
  obtain ⟨ao, cap, hv, h1, h2, _⟩ := h
  exact ⟨ao, L.length, cap, hv, rfl, h1, h2⟩

theorem Sees.at {w : World} {ao : Option Addr} {n cap : Nat} {L : List (Nat × Int)} (h : Sees w (.slice ao n cap) L) (j : Nat) (hj : j < n) : ∃ g off p, ao = some ⟨g, off, none⟩ ∧ g < w.heap.size ∧ w.cell? ⟨g, off + j * 2, none⟩ = some (.int .u32 (p.1 : Int)) ∧ w.cell? ⟨g, off + j * 2 + 1, none⟩ = some (.int .i64 p.2) ∧ Hid (L[j]? = some p) := by
  obtain ⟨ao', cap', hv, h1, h2, h3⟩ := h
  simp at hv
  obtain ⟨rfl, rfl, rfl⟩ := hv
  obtain ⟨g, off, a, b, c, d⟩ := h3 j hj
  exact ⟨g, off, L[j], a, b, c, d, List.getElem?_eq_getElem hj⟩

theorem Sees.below {w w' : World} {v : Value} {L : List (Nat × Int)} (h : Sees w v L) (hb : Below w.heap.size w w') : Sees w' v L := by
  obtain ⟨ao, cap, hv, h1, h2, h3⟩ := h
  refine ⟨ao, cap, hv, h1, h2, fun j hj => ?_⟩
  obtain ⟨g, off, ha, hg, c0, c1⟩ := h3 j hj
  exact ⟨g, off, ha, Nat.lt_of_lt_of_le hg hb.size, (hb.cell (p := ⟨g, _, none⟩) hg).trans c0, (hb.cell (p := ⟨g, _, none⟩) hg).trans c1⟩

/-- The first that is wrong with the kept ones. -/
def keE (x : Nat) (y : Int) (sub : Nat) : List Nat → List (Nat × Int) → Int
  | _, [] => 0
  | seen, p :: L => if alg sub p.1 p.2 = false then 100 else if inN x y p.1 = false then 101 else if num sub p.1 ∈ seen then 5 else keE x y sub (seen ++ [num sub p.1]) L

/-- What New answers. -/
def newE (x : Nat) (y s : Int) (lo hi : Nat) (L : List (Nat × Int)) : Int :=
  if 1024 < L.length then 2 else if ck x y s lo hi ≠ 0 then ck x y s lo hi else keE x y s.toNat [] L

theorem ck_zero {x lo hi : Nat} {y s : Int} (h : ck x y s lo hi = 0) : valB x y = true ∧ y ≤ s ∧ s ≤ 32 ∧ lo ≤ hi ∧ valB lo s = true ∧ valB hi s = true ∧ inN x y lo = true ∧ inN x y hi = true := by
  unfold ck at h
  split at h
  · cases h
  · split at h
    · cases h
    · split at h
      · cases h
      · split at h
        · cases h
        · simp_all

theorem valB_range {x : Nat} {y : Int} (h : valB x y = true) : 0 ≤ y ∧ y ≤ 32 := by
  unfold valB at h
  simp at h
  omega

/-- What New leaves. -/
def News (w : World) (x : Nat) (y s : Int) (lo hi : Nat) (L : List (Nat × Int)) (e : Ending) (w' : World) : Prop :=
  (newE x y s lo hi L ≠ 0 ∧ e = .returned (.tuple #[.pointer none, .int .i64 (newE x y s lo hi L)]) ∧ Below w.heap.size w w') ∨
  (newE x y s lo hi L = 0 ∧ ∃ (pb sub : Nat) (vk : Value) (ks : List R), s = (sub : Int) ∧ e = .returned (.tuple #[.pointer (some ⟨pb, 0, none⟩), .int .i64 0]) ∧ Mk w pb sub (num sub lo) (num sub hi) w' vk ks ∧ ∀ n, Mem ks n ↔ n ∈ L.map fun p => num sub p.1)

theorem new_any (x lo hi : Nat) (y s : Int) (v : Value) (L : List (Nat × Int)) (w : World) (hx : x < 4294967296) (hl : lo < 4294967296) (hh : hi < 4294967296) (hv : Sees w v L) (hL : ∀ p ∈ L, p.1 < 4294967296) :
    Calls Try.prog 21 #[.agg #[.int .u32 (x : Int), .int .i64 y], .int .i64 s, .int .u32 (lo : Int), .int .u32 (hi : Int), v] w (News w x y s lo hi L) := by
  obtain ⟨ao, n, cap, rfl, HN, hn1, hn2⟩ := hv.shape
  unfold maxLen at hn2
  obtain ⟨wa, HWA⟩ : ∃ wa, Hid (wa = w.alloc (.cells #[.int .u32 (x : Int), .int .i64 y] 25)) := ⟨_, rfl⟩
  have hb0 : Below w.heap.size w wa := by rw [HWA.out]; exact (Below.refl _ _).alloc (Nat.le_refl _) _
  have r1 : wa.heap[w.heap.size]? = some (.cells #[.int .u32 (x : Int), .int .i64 y] 25) := by rw [HWA.out]; exact heap_alloc_new w _
  obtain ⟨q0, q1⟩ := Beh.two r1
  have HB0 := hid hb0
  have HV := hid (hv.below hb0)
  have HLL := hid hL
  have HCK : ∀ t : Beh wa, Hid (Calls Try.prog 36 #[.agg #[.int .u32 (x : Int), .int .i64 y], .int .i64 s, .int .u32 (lo : Int), .int .u32 (hi : Int)] t.wd fun e w' => e = .returned (.int .i64 (ck x y s lo hi)) ∧ ∃ t' : Beh wa, w' = t'.wd) := fun t => Calls.beh (check_row x lo hi y s t.wd hx hl hh)
  have hbw : ∀ t : Beh wa, Below w.heap.size w t.wd := fun t => HB0.out.trans (t.ok.mono HB0.out.size)
  clear hv hb0 r1 hL
  by_cases h1024 : 1024 < n
  · have HE : Hid (newE x y s lo hi L = 2) := by unfold Hid newE; rw [if_pos (by have := HN.out; omega)]
    go_enter Try.func21, Try.ntmps21
    go_upto_region 1 with fail
    rw [← HWA.out]
    go_wp2_with fail
    refine bodyPost_ret (v := .tuple #[.pointer none, .int .i64 2]) (by simp [results, Try.results21, go_sem]) rfl ?_
    exact .inl ⟨by rw [HE.out]; decide, by rw [HE.out], hbw ⟨wa, Below.refl _ _⟩⟩
  · have HE1 : Hid (newE x y s lo hi L = if ck x y s lo hi ≠ 0 then ck x y s lo hi else keE x y s.toNat [] L) := by unfold Hid newE; rw [if_neg (by have := HN.out; omega)]
    go_enter Try.func21, Try.ntmps21
    go_upto_region 1 with fail
    rw [← HWA.out]
    go_upto_region 3 with fail
    have p0 := q0 ⟨wa, Below.refl _ _⟩
    have p1 := q1 ⟨wa, Below.refl _ _⟩
    go_wp2_with fail
    refine (HCK ⟨wa, Below.refl _ _⟩).out.mono ?_
    rintro _ _ ⟨rfl, t1, rfl⟩
    by_cases hck : ck x y s lo hi = 0
    · obtain ⟨k1, k2, k3, k4, k5, k6, k7, k8⟩ := ck_zero hck
      have hy := valB_range k1
      have hs := valB_range k5
      obtain ⟨sub, rfl⟩ : ∃ sub : Nat, s = (sub : Int) := ⟨s.toNat, by omega⟩
      have hs32 : sub ≤ 32 := by omega
      have HE2 : Hid (newE x y (sub : Int) lo hi L = keE x y sub [] L) := by unfold Hid; rw [HE1.out, hck, if_neg (by simp), Int.toNat_natCast]
      rw [hck]
      clear hck HE1 k2 k3 k5 k6 k7 k8 hs HCK p0 p1
      obtain ⟨pb, HPB⟩ : ∃ pb, Hid (pb = t1.wd.heap.size) := ⟨_, rfl⟩
      obtain ⟨w2, HW2⟩ : ∃ w2, Hid (w2 = t1.wd.alloc (.cells #[.int .i64 (sub : Int), .int .i64 0, .int .i64 0, .slice none 0 0, .slice none 0 0] 68)) := ⟨_, rfl⟩
      have hb2 : Below wa.heap.size wa w2 := by rw [HW2.out]; exact t1.ok.alloc t1.ok.size _
      have r2 : w2.heap[pb]? = some (.cells #[.int .i64 (sub : Int), .int .i64 0, .int .i64 0, .slice none 0 0, .slice none 0 0] 68 (0, 0)) := by rw [HW2.out, HPB.out]; exact heap_alloc_new t1.wd _
      have hpb : wa.heap.size ≤ pb := by rw [HPB.out]; exact t1.ok.size
      have c0 : w2.cell? ⟨pb, 0, none⟩ = some (.int .i64 (sub : Int)) := by rw [cell_of_row _ _ _ _ _ _ r2]; rfl
      have c1 : w2.cell? ⟨pb, 1, none⟩ = some (.int .i64 0) := by rw [cell_of_row _ _ _ _ _ _ r2]; rfl
      have c2 : w2.cell? ⟨pb, 2, none⟩ = some (.int .i64 0) := by rw [cell_of_row _ _ _ _ _ _ r2]; rfl
      have f1 : w2.frozen? ⟨pb, 1, none⟩ = false := frozen_of_row _ _ _ _ _ r2
      have f2 : w2.frozen? ⟨pb, 2, none⟩ = false := frozen_of_row _ _ _ _ _ r2
      have HNL := hid (number_any pb lo sub w2 hl hs32 c0)
      have HNH := hid (number_any pb hi sub w2 hh hs32 c0)
      obtain ⟨nl, HNLO⟩ : ∃ nl, Hid (nl = num sub lo) := ⟨_, rfl⟩
      obtain ⟨nh, HNHI⟩ : ∃ nh, Hid (nh = num sub hi) := ⟨_, rfl⟩
      have HMK0 : Hid (Mk wa pb sub nl nh ((w2.setCell ⟨pb, 1, none⟩ (.int .i64 (nl : Int))).setCell ⟨pb, 2, none⟩ (.int .i64 (nh : Int))) (.slice none 0 0) []) := by
        have hd : adr sub (num sub hi) ≤ hi := Nat.div_mul_le_self _ _
        refine ⟨hpb, (fun g h => by cases h), (hb2.setCell (p := ⟨pb, 1, none⟩) hpb _).setCell (p := ⟨pb, 2, none⟩) hpb _, ⟨?_, ⟨rfl, .inl ⟨rfl, rfl⟩⟩, ⟨rfl, .inl ⟨rfl, rfl⟩⟩, runs_nil, runs_nil, .inl rfl, hs32, ?_, ?_, ?_, fun m h => absurd h mem_nil, fun m h => absurd h mem_nil⟩⟩
        · have h := set_cells (i := 2) (v := .int .i64 (nh : Int)) (set_cells (i := 1) (v := .int .i64 (nl : Int)) r2)
          rw [h]; rfl
        · rw [HNHI.out]; exact num_lt hh
        · rw [HNLO.out, HNHI.out]; exact Nat.div_le_div_right k4
        · rw [HNHI.out]; omega
      rw [← HNLO.out] at HNL
      rw [← HNHI.out] at HNH
      clear hb2 r2 c0 k4
      go_upto_region 7 with fail
      rw [← HW2.out, ← HPB.out]
      go_wp2_with fail
      refine HNL.out.mono ?_
      rintro _ _ ⟨rfl, ew⟩
      obtain rfl := ew.symm
      clear ew
      go_wp2_with fail
      refine HNH.out.mono ?_
      rintro _ _ ⟨rfl, ew⟩
      obtain rfl := ew.symm
      clear ew
      go_upto_region 8 with fail
      obtain ⟨w3, HW3⟩ : ∃ w3, Hid (w3 = (w2.setCell ⟨pb, 1, none⟩ (.int .i64 (nl : Int))).setCell ⟨pb, 2, none⟩ (.int .i64 (nh : Int))) := ⟨_, rfl⟩
      rw [← HW3.out] at HMK0 ⊢
      clear c1 c2 f1 f2 HW3 HNL HNH
      go_upto_region 9 with fail
      go_loopw [43] (fun i wr => ∃ (j : Nat) (vk : Value) (ks : List R), i = .int .i64 (j : Int) ∧ j ≤ n ∧ Hid (Mk wa pb sub nl nh wr vk ks) ∧ Hid (∀ m, Mem ks m ↔ m ∈ (L.take j).map fun p => num sub p.1) ∧ Hid (keE x y sub ((L.take j).map fun p => num sub p.1) (L.drop j) = keE x y sub [] L)) (fun i _ => n - (intOf i).toNat)
      case atStart => exact ⟨0, .slice none 0 0, [], rfl, Nat.zero_le _, HMK0, hid fun m => by simp [mem_nil], hid (by simp)⟩
      case round =>
        obtain ⟨j, vk, ks, rfl, hj, HMK, HMEM, HKE⟩ := hrel
        by_cases hjn : j < n
        · obtain ⟨g, off, p, hao, hg, d0, d1, HPJ⟩ := (HV.out.below HMK.out.be).at j hjn
          subst hao
          have hp1 : p.1 < 4294967296 := HLL.out p (List.mem_of_getElem? HPJ.out)
          have hjl : j < L.length := (List.getElem?_eq_some_iff.1 HPJ.out).1
          have edr : L.drop j = p :: L.drop (j + 1) := by rw [List.drop_eq_getElem_cons hjl, (List.getElem?_eq_some_iff.1 HPJ.out).2]
          have etk : (L.take (j + 1)).map (fun p => num sub p.1) = (L.take j).map (fun p => num sub p.1) ++ [num sub p.1] := by
            rw [List.take_succ_eq_append_getElem hjl, (List.getElem?_eq_some_iff.1 HPJ.out).2]; simp
          have HSTEP : Hid (keE x y sub ((L.take j).map fun p => num sub p.1) (L.drop j) = if alg sub p.1 p.2 = false then 100 else if inN x y p.1 = false then 101 else if num sub p.1 ∈ ((L.take j).map fun p => num sub p.1) then 5 else keE x y sub ((L.take (j + 1)).map fun p => num sub p.1) (L.drop (j + 1))) := by
            unfold Hid; rw [edr, etk]; rfl
          have HTK := hid etk
          obtain ⟨sb, HSB⟩ : ∃ sb, Hid (sb = wr.heap.size) := ⟨_, rfl⟩
          obtain ⟨w4, HW4⟩ : ∃ w4, Hid (w4 = wr.alloc (.cells #[.int .u32 (p.1 : Int), .int .i64 p.2] 25)) := ⟨_, rfl⟩
          have hb4 : Below wr.heap.size wr w4 := by rw [HW4.out]; exact (Below.refl _ _).alloc (Nat.le_refl _) _
          have HMK4 := hid (HMK.out.below hb4)
          have r4 : w4.heap[sb]? = some (.cells #[.int .u32 (p.1 : Int), .int .i64 p.2] 25) := by rw [HW4.out, HSB.out]; exact heap_alloc_new wr _
          have m0 : w4.cell? ⟨sb, 0, none⟩ = some (.int .u32 (p.1 : Int)) := by rw [cell_of_row _ _ _ _ _ _ r4]; rfl
          have m1 : w4.cell? ⟨sb, 1, none⟩ = some (.int .i64 p.2) := by rw [cell_of_row _ _ _ _ _ _ r4]; rfl
          have m2 := q0 ⟨w4, HMK4.out.be⟩
          have m3 := q1 ⟨w4, HMK4.out.be⟩
          simp only at m2 m3
          have HKP := hid (keep_any pb sub nl nh x p.1 y p.2 vk ks wa w4 HMK4.out hx k1 hp1)
          have hbk : ∀ u' : World, Below wa.heap.size wa u' → Below w.heap.size w u' := fun u' h => HB0.out.trans (h.mono HB0.out.size)
          have b1 : (j : Int) < (n : Int) := by omega
          clear hb4 r4 edr etk hjl
          go_upto_region 11 with fail
          rw [← HW4.out, ← HSB.out]
          clear d0 d1 hg
          go_wp2_with fail
          refine HKP.out.mono ?_
          rintro e w5 (⟨h1, rfl, hb⟩ | ⟨h1, h2, rfl, hb⟩ | ⟨h1, h2, h3, rfl, hb⟩ | ⟨h1, h2, h3, rfl, vk', ks', hmk, hmem⟩)
          · have HF : Hid (newE x y (sub : Int) lo hi L = 100 ∧ Below w.heap.size w w5) := ⟨by rw [HE2.out, ← HKE.out, HSTEP.out, if_pos h1], hbk _ hb⟩
            clear h1 hb
            go_wp2_with fail
            refine bodyPost_ret (v := .tuple #[.pointer none, .int .i64 100]) (by simp [results, Try.results21, go_sem]) rfl ?_
            exact .inl ⟨by rw [HF.out.1]; decide, by rw [HF.out.1], HF.out.2⟩
          · have HF : Hid (newE x y (sub : Int) lo hi L = 101 ∧ Below w.heap.size w w5) := ⟨by rw [HE2.out, ← HKE.out, HSTEP.out, if_neg (by rw [h1]; simp), if_pos h2], hbk _ hb⟩
            clear h1 h2 hb
            go_wp2_with fail
            refine bodyPost_ret (v := .tuple #[.pointer none, .int .i64 101]) (by simp [results, Try.results21, go_sem]) rfl ?_
            exact .inl ⟨by rw [HF.out.1]; decide, by rw [HF.out.1], HF.out.2⟩
          · have HF : Hid (newE x y (sub : Int) lo hi L = 5 ∧ Below w.heap.size w w5) := ⟨by rw [HE2.out, ← HKE.out, HSTEP.out, if_neg (by rw [h1]; simp), if_neg (by rw [h2]; simp), if_pos ((HMEM.out _).1 h3)], hbk _ hb⟩
            clear h1 h2 h3 hb
            go_wp2_with fail
            refine bodyPost_ret (v := .tuple #[.pointer none, .int .i64 5]) (by simp [results, Try.results21, go_sem]) rfl ?_
            exact .inl ⟨by rw [HF.out.1]; decide, by rw [HF.out.1], HF.out.2⟩
          · have HKE2 : Hid (keE x y sub ((L.take (j + 1)).map fun p => num sub p.1) (L.drop (j + 1)) = keE x y sub [] L) := by
              unfold Hid
              rw [← HKE.out, HSTEP.out, if_neg (by rw [h1]; simp), if_neg (by rw [h2]; simp), if_neg (fun h => h3 ((HMEM.out _).2 h))]
            have HMEM2 : Hid (∀ m, Mem ks' m ↔ m ∈ (L.take (j + 1)).map fun p => num sub p.1) := fun m => by
              rw [hmem m, HMEM.out m, HTK.out, List.mem_append, List.mem_singleton, or_comm]
            have HMK2 := hid hmk
            clear h1 h2 h3 hmk hmem
            go_wp2_with fail
            go_roundw
            case rel => exact ⟨j + 1, vk', ks', by go_num, by omega, HMK2, HMEM2, HKE2⟩
            case measure => simp [intOf]; omega
        · have HF : Hid (newE x y (sub : Int) lo hi L = 0 ∧ ∀ m, Mem ks m ↔ m ∈ L.map fun p => num sub p.1) := by
            have e : j = L.length := by have := HN.out; omega
            have h1 := HKE.out
            have h2 := HMEM.out
            rw [e, List.take_length] at h2
            rw [e, List.drop_length] at h1
            exact ⟨by rw [HE2.out, ← h1]; rfl, h2⟩
          have HMW : Hid (Mk w pb sub nl nh wr vk ks) := ⟨Nat.le_trans HB0.out.size HMK.out.new, fun g hg => Nat.le_trans HB0.out.size (HMK.out.vnew g hg), HB0.out.trans (HMK.out.be.mono HB0.out.size), HMK.out.pool⟩
          go_wp2_with fail
          refine bodyPost_ret (v := .tuple #[.pointer (some ⟨pb, 0, none⟩), .int .i64 0]) (by simp [results, Try.results21, go_sem]) rfl ?_
          exact .inr ⟨HF.out.1, pb, sub, vk, ks, rfl, rfl, by rw [← HNLO.out, ← HNHI.out]; exact HMW.out, HF.out.2⟩
    · have HE2 : Hid (newE x y s lo hi L = ck x y s lo hi) := by unfold Hid; rw [HE1.out, if_pos hck]
      generalize ck x y s lo hi = c at *
      have hc0 : (c == 0) = false := by simp [hck]
      go_wp2_with fail
      refine bodyPost_ret (v := .tuple #[.pointer none, .int .i64 c]) (by simp [results, Try.results21, go_sem]) rfl ?_
      exact .inl ⟨by rw [HE2.out]; exact hck, by rw [HE2.out], hbw t1⟩
end Go.Proofs.Ytahoileampdnkaa
