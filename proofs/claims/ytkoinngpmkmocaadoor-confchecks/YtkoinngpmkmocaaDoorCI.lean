import Derived.Test.YtkoinngpmkmocaaDoorCH
import Derived.Laws.StructEq
namespace Go.Proofs.YtkoinngpmkmocaaDoor
open Go.ChangeShapes Go.WideShapes Go.ChangeAt Go.RowKit Go.Maps
set_option maxHeartbeats 400000
set_option maxRecDepth 100000

theorem pfx_eq (w : World) (a b x y : Int) : (Op.equalIn 10000 26 (.agg #[.int .u32 a, .int .i64 b]) (.agg #[.int .u32 x, .int .i64 y])).run Tryd.prog w = .ok ((a == x) && (b == y)) w := by
  rw [show (10000 : Nat) = 9998 + 1 + 1 from rfl, Op.equalIn]
  by_cases h1 : a = x
  · by_cases h2 : b = y
    · simp [run_underlying Tryd.underlying26, go_sem, Std.Legacy.Range.forIn_eq_forIn_range', Std.Legacy.Range.size, h1, h2]
    · simp [run_underlying Tryd.underlying26, go_sem, Std.Legacy.Range.forIn_eq_forIn_range', Std.Legacy.Range.size, h1, h2]
  · simp [run_underlying Tryd.underlying26, go_sem, Std.Legacy.Range.forIn_eq_forIn_range', Std.Legacy.Range.size, h1]

theorem take_rg {R : List Rsv} {k : Nat} (hk : k ≤ R.length) (a : Nat) : ((R.take k).map fun r => r.2.1).contains a = true ↔ ∃ j, j < k ∧ (rg R j).2.1 = a := by
  rw [List.contains_iff_mem, List.mem_map]
  constructor
  · rintro ⟨r, hr, rfl⟩
    obtain ⟨j, hj, e⟩ := List.getElem_of_mem hr
    have hj' : j < k := by simpa using Nat.lt_of_lt_of_le hj (by rw [List.length_take]; exact Nat.min_le_left _ _)
    refine ⟨j, hj', ?_⟩
    rw [List.getElem_take] at e
    rw [rg_of (List.getElem?_eq_getElem (by omega : j < R.length)), e]
  · rintro ⟨j, hj, rfl⟩
    refine ⟨R[j]'(by omega), ?_, ?_⟩
    · rw [List.mem_take_iff_getElem]; exact ⟨j, by omega, rfl⟩
    · rw [rg_of (List.getElem?_eq_getElem (by omega : j < R.length))]

theorem lastH_up {c : Cfg} {R : List Rsv} : ∀ {k : Nat}, (∀ j, j < k → okAt c R j = true) → (k : Int) - 1 ≤ lastH R k
  | 0, _ => by unfold lastH; simp
  | k + 1, h => by
    have ih := lastH_up (k := k) fun j hj => h j (by omega)
    have hk := h k (by omega)
    rw [okAt_iff fun j hj => h j (by omega)] at hk
    simp at hk
    have e : lastH R (k + 1) = (rg R k).1 := by unfold lastH; rw [if_neg (by omega)]; rfl
    rw [e]; omega

theorem okAt_len {c : Cfg} {R : List Rsv} {k : Nat} (h : okAt c R k = true) : (rg R k).2.2 = c.slen := by
  unfold okAt at h
  simp at h
  exact h.2.2.2.1

set_option maxHeartbeats 16000000 in
theorem refCheck_any (c : Cfg) (R : List Rsv) (w : World) (hs : SeesV w c.rv R) :
    Calls Tryd.prog 11 #[.agg c.cells] w fun e w' => e = .returned (.int .i64 (ans c R)) ∧ Below w.heap.size w w' := by
  obtain ⟨wc, hwc⟩ : ∃ wc, wc = w.alloc (.cells c.cells 29) := ⟨_, rfl⟩
  have hb0 : Below w.heap.size w wc := by rw [hwc]; exact (Below.refl _ _).alloc (Nat.le_refl _) _
  have q := Cfg.at (w := w) c
  rw [← hwc] at q
  obtain ⟨ro, n, rc, hrv, HN, hn1, hn2⟩ := hs.shape
  have q0 : ∀ u : Beh wc, u.wd.cell? ⟨w.heap.size, 0, none⟩ = some (.int .u32 (c.net : Int)) := fun u => q u 0 (by omega)
  have q1 : ∀ u : Beh wc, u.wd.cell? ⟨w.heap.size, 1, none⟩ = some (.int .i64 c.nlen) := fun u => q u 1 (by omega)
  have q2 : ∀ u : Beh wc, u.wd.cell? ⟨w.heap.size, 2, none⟩ = some (.int .i64 c.slen) := fun u => q u 2 (by omega)
  have q3 : ∀ u : Beh wc, u.wd.cell? ⟨w.heap.size, 3, none⟩ = some (.int .u32 (c.min : Int)) := fun u => q u 3 (by omega)
  have q4 : ∀ u : Beh wc, u.wd.cell? ⟨w.heap.size, 4, none⟩ = some (.int .u32 (c.max : Int)) := fun u => q u 4 (by omega)
  have q11 : ∀ u : Beh wc, u.wd.cell? ⟨w.heap.size, 11, none⟩ = some (.int .i64 c.hosts) := fun u => q u 11 (by omega)
  have q12 : ∀ u : Beh wc, u.wd.cell? ⟨w.heap.size, 12, none⟩ = some (.int .u32 (c.first : Int)) := fun u => q u 12 (by omega)
  have q17 : ∀ u : Beh wc, u.wd.cell? ⟨w.heap.size, 17, none⟩ = some (.slice ro n rc) := fun u => (q u 17 (by omega)).trans (by rw [← hrv]; rfl)
  have ql : ∀ u : Beh wc, (Instr.loadAt 29 (.pointer (some ⟨w.heap.size, 0, none⟩))).run Tryd.prog u.wd = .ok (.agg c.cells) u.wd := fun u => Cfg.load c (q u)
  have HB : Hid (∀ u : Beh wc, Below w.heap.size w u.wd) := fun u => hb0.trans (u.ok.mono hb0.size)
  have HF : Hid (∀ u : Beh wc, Calls Tryd.prog 27 #[.agg c.cells] u.wd fun e w' => e = .returned (.bool (nums c && adr c)) ∧ ∃ u' : Beh wc, w' = u'.wd) := fun u => Calls.beh (fields_any c _)
  have HCT : Hid (∀ (u : Beh wc) (A : Int) (a : Nat), A = (a : Int) → Calls Tryd.prog 28 #[.agg #[.int .u32 (c.net : Int), .int .i64 c.nlen], .int .u32 A] u.wd fun e w' => e = .returned (.bool (has c.net c.nlen a)) ∧ ∃ u' : Beh wc, w' = u'.wd) := fun u A a hA => by subst hA; exact Calls.beh (refContains_any c.net c.nlen a _ c.hnet)
  have HBASE : Hid (0 ≤ c.slen ∧ c.slen ≤ 32 → ∀ (v : World) (a : Nat), a < 4294967296 → Calls Tryd.prog 30 #[.agg c.cells, .int .u32 (a : Int)] v fun e w' => e = .returned (.bool (sub c a)) ∧ Below v.heap.size v w') := fun h v a ha => base_any c a v ha h
  have HA : Hid (ans c R = if (nums c && adr c) = true then (if (decide (c.max < c.min) || (inside c || !resv c R)) = true then 28 else 0) else 26) := rfl
  have HRS : Hid (resv c R = (List.range n).all (okAt c R)) := by unfold Hid resv; rw [HN.out]
  have HNH : Hid ((nums c && adr c) = true → (1 ≤ c.hosts ∧ c.hosts ≤ 64) ∧ (0 ≤ c.slen ∧ c.slen ≤ 32)) := fun h => by
    rw [Bool.and_eq_true] at h
    refine ⟨nums_hosts h.1, ?_⟩
    have h2 := h.2
    unfold adr at h2
    simp only [Bool.and_eq_true] at h2
    have a1 := inb_true h2.2.1
    have a2 := inb_true h2.2.2.2.1
    omega
  have HSV := hid hs
  have HRV := hid hrv
  have HWC := hid hwc
  obtain ⟨u0, hu0⟩ : ∃ u0 : Beh wc, u0.wd = wc := ⟨⟨wc, Below.refl _ _⟩, rfl⟩
  have HU0 := hid hu0
  have hf := c.hfirst
  unfold maxLen at hn2
  clear hwc hb0 q hs hu0 hrv
  generalize c.cells = cc at HWC ql HF HBASE ⊢
  generalize ans c R = res at HA ⊢
  go_enter Tryd.func11, Tryd.ntmps11
  go_upto_region 1 with fail
  rw [← HWC.out, ← HU0.out]
  go_wp2_with (first | (refine wpList_cfg w.heap.size (.tmp 1) rfl rfl (ql _) rfl ?_) | fail)
  refine (HF.out u0).mono ?_
  rintro _ _ ⟨rfl, u1, rfl⟩
  cases hfl : (nums c && adr c)
  · have HE : Hid (res = 26) := by unfold Hid; rw [HA.out, hfl]; rfl
    clear hfl
    go_wp2_with fail
    go_ret
    exact ⟨ret_int HE.out.symm, HB.out u1⟩
  obtain ⟨⟨hh1, hh2⟩, hs1, hs2⟩ := HNH.out hfl
  by_cases g : c.max < c.min
  · have HE : Hid (res = 28) := by unfold Hid; rw [HA.out, hfl, decide_eq_true g]; rfl
    clear hfl
    go_wp2_with fail
    go_ret
    exact ⟨ret_int HE.out.symm, HB.out u1⟩
  have HA2 : Hid (res = if (inside c || !resv c R) = true then 28 else 0) := by unfold Hid; rw [HA.out, hfl, decide_eq_false g]; rfl
  clear HA hfl HNH HF
  obtain ⟨m, hm⟩ : ∃ m : Nat, c.hosts = (m : Int) := ⟨c.hosts.toNat, by omega⟩
  have HIN : Hid (inside c = (List.range m).any (insideAt c)) := by unfold Hid inside; rw [hm]; rfl
  have hm64 : m ≤ 64 := by omega
  have hm1 : 1 ≤ m := by omega
  have HHM := hid hm
  rw [hm] at q11
  clear hm hh1 hh2
  go_wp2_with fail
  go_loopw [3] (fun i wr => ∃ (j : Nat) (u : Beh wc), i = .int .i64 j ∧ j ≤ m ∧ wr = u.wd ∧ Hid (∀ h, h < j → insideAt c h = false)) (fun i _ => m - (intOf i).toNat)
  case atStart => exact ⟨0, u1, rfl, by omega, rfl, fun h hh => by omega⟩
  case round =>
    obtain ⟨j, u, rfl, hj, rfl, HJ⟩ := hrel
    by_cases hjn : j < m
    · by_cases hlt : c.first + j < 4294967296
      · have HC := hid (HCT.out u ((c.first : Int) + (j : Int)) (c.first + j) (by omega))
        have HI : Hid (insideAt c j = has c.net c.nlen (c.first + j)) := by unfold Hid insideAt; rw [Nat.mod_eq_of_lt hlt]
        generalize has c.net c.nlen (c.first + j) = b at HC HI
        go_wp2_with fail
        refine HC.out.mono ?_
        rintro _ _ ⟨rfl, v1, rfl⟩
        cases b
        · go_wp2_with fail
          go_roundw
          case rel => exact ⟨j + 1, v1, by go_num, by omega, rfl, fun h hh => if e : h = j then by rw [e]; exact HI.out else HJ.out h (by omega)⟩
          case measure => simp [intOf]; omega
        · have HE : Hid (res = 28) := by unfold Hid; rw [HA2.out, HIN.out, any_true hjn HI.out]; rfl
          go_wp2_with fail
          go_ret
          exact ⟨ret_int HE.out.symm, HB.out v1⟩
      · have HI : Hid (insideAt c j = has c.net c.nlen (c.first + j - 4294967296)) := by unfold Hid insideAt; rw [show (c.first + j) % 4294967296 = c.first + j - 4294967296 from by omega]
        go_wp2_with fail
        refine (HCT.out u _ (c.first + j - 4294967296) ?_).mono ?_
        · omega
        rintro _ _ ⟨rfl, v1, rfl⟩
        generalize has c.net c.nlen (c.first + j - 4294967296) = b at HI ⊢
        cases b
        · go_wp2_with fail
          go_roundw
          case rel => exact ⟨j + 1, v1, by go_num, by omega, rfl, fun h hh => if e : h = j then by rw [e]; exact HI.out else HJ.out h (by omega)⟩
          case measure => simp [intOf]; omega
        · have HE : Hid (res = 28) := by unfold Hid; rw [HA2.out, HIN.out, any_true hjn HI.out]; rfl
          go_wp2_with fail
          go_ret
          exact ⟨ret_int HE.out.symm, HB.out v1⟩
    · have HA3 : Hid (res = if (!resv c R) = true then 28 else 0) := by unfold Hid; rw [HA2.out, HIN.out, any_false fun h hh => HJ.out h (by omega)]; rfl
      clear HA2 HIN
      go_wp2_with fail
      go_loopw [4] (fun i wr => ∃ (k : Nat) (u : Beh wc), i = .int .i64 k ∧ k ≤ n ∧ wr = u.wd ∧ Hid (∀ j, j < k → okAt c R j = true)) (fun i _ => n - (intOf i).toNat)
      case atStart => exact ⟨0, u, rfl, by omega, rfl, fun j hj => by omega⟩
      case round =>
        clear HJ hj hjn u
        obtain ⟨k, u, rfl, hk, rfl, HK⟩ := hrel
        by_cases hkn : k < n
        case neg =>
          have HE : Hid (res = 0) := by unfold Hid; rw [HA3.out, HRS.out, all_true fun h hh => HK.out h (by omega)]; rfl
          go_wp2_with fail
          go_ret
          exact ⟨ret_int HE.out.symm, HB.out u⟩
        have hsv := HSV.out.below (HB.out u)
        rw [HRV.out] at hsv
        obtain ⟨g, off, ⟨host, ad, len⟩, rfl, hg, c0, c1, c2, had, HR⟩ := hsv.at k hkn
        simp only at c0 c1 c2 had
        have HRG : Hid (rg R k = (host, ad, len)) := rg_of HR.out
        have HOK : Hid (okAt c R k = (decide (lastH R k < host) && (decide (host < c.hosts) && (decide (len = c.slen) && (sub c ad && !((R.take k).map fun r => r.2.1).contains ad))))) := by
          have := okAt_iff HK.out
          rw [HRG.out] at this; exact this
        have hup : (k : Int) - 1 ≤ lastH R k := lastH_up HK.out
        obtain ⟨br, hbr⟩ : ∃ br, br = u.wd.heap.size := ⟨_, rfl⟩
        obtain ⟨w1, hw1⟩ : ∃ w1, w1 = u.wd.alloc (.cells #[.int .i64 host, .int .u32 (ad : Int), .int .i64 len] 63) := ⟨_, rfl⟩
        have hb1 : Below u.wd.heap.size u.wd w1 := by rw [hw1]; exact (Below.refl _ _).alloc (Nat.le_refl _) _
        have hbu1 : Below wc.heap.size wc w1 := u.ok.trans (hb1.mono u.ok.size)
        obtain ⟨t0, t1, t2⟩ := Beh.three (w := w1) (b := br) (x := .int .i64 host) (y := .int .u32 (ad : Int)) (z := .int .i64 len) (T := 63) (by rw [hw1, hbr]; exact heap_alloc_new u.wd _)
        have f11 : ∀ v : Beh w1, v.wd.cell? ⟨w.heap.size, 11, none⟩ = some (.int .i64 (m : Int)) := fun v => q11 ⟨v.wd, hbu1.trans (v.ok.mono hbu1.size)⟩
        have f2 : ∀ v : Beh w1, v.wd.cell? ⟨w.heap.size, 2, none⟩ = some (.int .i64 c.slen) := fun v => q2 ⟨v.wd, hbu1.trans (v.ok.mono hbu1.size)⟩
        have f17 : ∀ v : Beh w1, v.wd.cell? ⟨w.heap.size, 17, none⟩ = some (.slice (some ⟨g, off, none⟩) n rc) := fun v => q17 ⟨v.wd, hbu1.trans (v.ok.mono hbu1.size)⟩
        have fl : ∀ v : Beh w1, (Instr.loadAt 29 (.pointer (some ⟨w.heap.size, 0, none⟩))).run Tryd.prog v.wd = .ok (.agg cc) v.wd := fun v => ql ⟨v.wd, hbu1.trans (v.ok.mono hbu1.size)⟩
        have HBV : Hid (∀ v : Beh w1, Below w.heap.size w v.wd) := fun v => HB.out ⟨v.wd, hbu1.trans (v.ok.mono hbu1.size)⟩
        have HCV : Hid (∀ v : Beh w1, ∃ u' : Beh wc, v.wd = u'.wd) := fun v => ⟨⟨v.wd, hbu1.trans (v.ok.mono hbu1.size)⟩, rfl⟩
        have HINV : Hid (∀ (v : Beh w1) (hi : Int), Calls Tryd.prog 29 #[.int .i64 host, .int .i64 0, .int .i64 hi] v.wd fun e w' => e = .returned (.bool (inb host 0 hi)) ∧ ∃ v' : Beh w1, w' = v'.wd) := fun v hi => (in_any host 0 hi v.wd).mono fun e w' ⟨h1, h2⟩ => ⟨h1, v, h2⟩
        have HSB : Hid (∀ v : Beh w1, Calls Tryd.prog 30 #[.agg cc, .int .u32 (ad : Int)] v.wd fun e w' => e = .returned (.bool (sub c ad)) ∧ ∃ v' : Beh w1, w' = v'.wd) := fun v => Calls.beh (HBASE.out ⟨hs1, hs2⟩ v.wd ad had)
        have HEL : Hid (∀ (v : Beh w1) (j : Nat), j < n → ∃ r : Rsv, v.wd.cell? ⟨g, off + j * 3, none⟩ = some (.int .i64 r.1) ∧ v.wd.cell? ⟨g, off + j * 3 + 1, none⟩ = some (.int .u32 (r.2.1 : Int)) ∧ v.wd.cell? ⟨g, off + j * 3 + 2, none⟩ = some (.int .i64 r.2.2) ∧ R[j]? = some r) := fun v j hj => by
          have hsv' := HSV.out.below (HBV.out v)
          rw [HRV.out] at hsv'
          obtain ⟨g', off', r, e, _, x0, x1, x2, _, hR⟩ := hsv'.at j hj
          simp at e
          obtain ⟨rfl, rfl⟩ := e
          exact ⟨r, x0, x1, x2, hR.out⟩
        obtain ⟨v0, hv0⟩ : ∃ v0 : Beh w1, v0.wd = w1 := ⟨⟨w1, Below.refl _ _⟩, rfl⟩
        have HW1 := hid hw1
        have HV0 := hid hv0
        have HBR := hid hbr
        have HNO : Hid (okAt c R k = false → res = 28) := fun e => by rw [HA3.out, HRS.out, all_false hkn e]; rfl
        have HAD := hid had
        clear hw1 hv0 hbr hb1 hbu1 hsv had q0 q1 q3 q4 q12 HCT
        go_upto_region 14 with fail
        rw [← HBR.out, ← HW1.out, ← HV0.out]
        go_wp2_with fail
        refine (HINV.out v0 _).mono ?_
        rintro _ _ ⟨rfl, v1, rfl⟩
        have HHM' : Hid (c.hosts = (m : Int)) := HHM.out
        cases hin : inb host 0 ((m : Int) - 1)
        · have HE : Hid (res = 28) := HNO.out (by
            rw [HOK.out]
            rcases inb_false hin with e | e
            · rw [decide_eq_false (p := lastH R k < host) (by omega)]; rfl
            · rw [decide_eq_false (p := host < c.hosts) (by rw [HHM.out]; omega)]; simp)
          clear hin
          go_wp2_with fail
          go_ret
          exact ⟨ret_int HE.out.symm, HBV.out v1⟩
        obtain ⟨i0, i1⟩ := inb_true hin
        clear hin
        by_cases g3 : len = c.slen
        case neg =>
          have HE : Hid (res = 28) := HNO.out (by rw [HOK.out, decide_eq_false (p := len = c.slen) g3]; simp)
          have g3' : (len != c.slen) = true := by simp [g3]
          go_wp2_with fail
          go_ret
          exact ⟨ret_int HE.out.symm, HBV.out v1⟩
        have g3' : (len != c.slen) = false := by simp [g3]
        have HLEN := hid g3
        have HOK2 : Hid (okAt c R k = (decide (lastH R k < host) && (sub c ad && !((R.take k).map fun r => r.2.1).contains ad))) := by unfold Hid; rw [HOK.out, decide_eq_true (p := host < c.hosts) (by rw [HHM.out]; omega), decide_eq_true (p := len = c.slen) g3]; simp
        clear g3 HOK
        generalize sub c ad = bs at HSB HOK2
        go_wp2_with (first | (refine wpList_cfg w.heap.size (.tmp 1) rfl rfl (fl _) rfl ?_) | fail)
        refine (HSB.out v1).mono ?_
        rintro _ _ ⟨rfl, v2, rfl⟩
        cases bs
        · have HE : Hid (res = 28) := HNO.out (by rw [HOK2.out]; simp)
          go_wp2_with fail
          go_ret
          exact ⟨ret_int HE.out.symm, HBV.out v2⟩
        go_upto_region 16 with fail
        by_cases h64 : 64 ≤ k
        · have HE : Hid (res = 28) := HNO.out (by rw [HOK2.out, decide_eq_false (p := lastH R k < host) (by omega)]; rfl)
          have d1 : decide ((64 : Int) ≤ (k : Int)) = true := decide_eq_true (by omega)
          go_quiet (fail)
          go_wp2_with fail
          go_ret
          exact ⟨ret_int HE.out.symm, below_drewN (HBV.out v2) _⟩
        have d1 : decide ((64 : Int) ≤ (k : Int)) = false := decide_eq_false (by omega)
        go_cut [81] from 29 to 95 (fun b wx => ∃ q, wx = v2.wd.drewN q ∧ b = .bool (decide (host ≤ lastH R k)))
        case first =>
          by_cases hk0 : k = 0
          · subst hk0
            have d2 : decide ((0 : Int) < ((0 : Nat) : Int)) = false := by decide
            have HD : Hid (decide (host ≤ lastH R 0) = false) := decide_eq_false (by unfold lastH; simp; omega)
            go_quiet (fail)
            go_wp2_with fail
            go_meet
            case rel => exact ⟨_, rfl, by rw [HD.out]⟩
          · obtain ⟨k', rfl⟩ : ∃ k', k = k' + 1 := ⟨k - 1, by omega⟩
            obtain ⟨r, x0, x1, x2, hR⟩ := HEL.out v2 k' (by omega)
            have HD : Hid (lastH R (k' + 1) = r.1) := by unfold Hid lastH; rw [if_neg hk0, Nat.add_sub_cancel, rg_of hR]
            have HRR := hid hR
            clear hR
            clear d1
            have d1 : decide ((64 : Int) ≤ (k' : Int) + 1) = false := decide_eq_false (by omega)
            have d2 : decide ((0 : Int) < (k' : Int) + 1) = true := decide_eq_true (by omega)
            have e1 : (0 : Int) ≤ (k' : Int) := by omega
            have e2 : (k' : Int) < (n : Int) := by omega
            go_quiet (fail)
            go_wp2_with fail
            go_meet
            case rel => exact ⟨_, rfl, by rw [HD.out]⟩
        case rest =>
          obtain ⟨q0, rfl, rfl⟩ := hcut
          obtain ⟨v3, hv3⟩ : ∃ v3 : Beh w1, v3.wd = v2.wd.drewN q0 := ⟨⟨_, below_drewN v2.ok q0⟩, rfl⟩
          rw [← hv3]
          clear hv3
          by_cases hri : host ≤ lastH R k
          · have HE : Hid (res = 28) := HNO.out (by rw [HOK2.out, decide_eq_false (p := lastH R k < host) (by omega)]; rfl)
            have d3 : decide (host ≤ lastH R k) = true := decide_eq_true hri
            go_wp2_with fail
            go_ret
            exact ⟨ret_int HE.out.symm, HBV.out v3⟩
          have d3 : decide (host ≤ lastH R k) = false := decide_eq_false hri
          have HOK3 : Hid (okAt c R k = !((R.take k).map fun r => r.2.1).contains ad) := by unfold Hid; rw [HOK2.out, decide_eq_true (p := lastH R k < host) (by omega)]; simp
          clear HOK2
          go_wp2_with fail
          go_loopw [6] (fun i wx => ∃ (j : Nat) (v : Beh w1), i = .int .i64 j ∧ j ≤ k ∧ wx = v.wd ∧ Hid (∀ j', j' < j → (rg R j').2.1 ≠ ad)) (fun i _ => k - (intOf i).toNat)
          case atStart => exact ⟨0, v3, rfl, by omega, rfl, fun j' hj' => by omega⟩
          case round =>
            obtain ⟨j, v, rfl, hj, rfl, HJN⟩ := hrel
            by_cases hjk : j < k
            · obtain ⟨⟨rh, ra, rl⟩, x0, x1, x2, hR⟩ := HEL.out v j (by omega)
              simp only at x0 x1 x2
              have HRJ := hid (rg_of hR)
              have HRL : Hid (rl = c.slen) := by have := okAt_len (HK.out j hjk); rw [rg_of hR] at this; exact this
              clear hR x0
              have e1 : (0 : Int) ≤ (j : Int) := by omega
              have e2 : (j : Int) < (n : Int) := by omega
              have hpe := fun w => pfx_eq w (ra : Int) rl (ad : Int) len
              by_cases hra : ra = ad
              · have d5 : (((ra : Int) == (ad : Int)) && (rl == len)) = true := by rw [hra, HRL.out, HLEN.out]; simp
                have HE : Hid (res = 28) := HNO.out (by
                  rw [HOK3.out, (take_rg (by have := HN.out; omega) ad).2 ⟨j, hjk, by rw [HRJ.out]; exact hra⟩]; rfl)
                rw [d5] at hpe
                clear d5 hra
                go_wp2_with fail
                go_quiet (fail)
                go_wp2_with fail
                go_ret
                exact ⟨ret_int HE.out.symm, below_drewN (HBV.out v) _⟩
              · have d5 : (((ra : Int) == (ad : Int)) && (rl == len)) = false := by
                  rw [show ((ra : Int) == (ad : Int)) = false from by rw [beq_eq_false_iff_ne]; omega]; rfl
                rw [d5] at hpe
                have HRA := hid hra
                clear d5 hra
                go_wp2_with fail
                go_quiet (fail)
                go_wp2_with fail
                go_roundw
                case rel => exact ⟨j + 1, ⟨_, below_drewN v.ok nq⟩, by go_num, by omega, rfl, fun j' hj' => if e : j' = j then by rw [e, HRJ.out]; exact HRA.out else HJN.out j' (by omega)⟩
                case measure => simp [intOf]; omega
            · have HOKK : Hid (∀ j', j' < k + 1 → okAt c R j' = true) := fun j' hj' => if e : j' = k then by
                rw [e, HOK3.out]
                have : ((R.take k).map fun r => r.2.1).contains ad = false := by
                  rw [Bool.eq_false_iff]; intro e2
                  obtain ⟨i, hi, e3⟩ := (take_rg (by have := HN.out; omega) ad).1 e2
                  exact HJN.out i (by omega) e3
                rw [this]; rfl
                else HK.out j' (by omega)
              obtain ⟨u', hu'⟩ := HCV.out v
              rw [hu']
              go_wp2_with fail
              go_roundw
              case rel => exact ⟨k + 1, u', by go_num, by omega, rfl, HOKK⟩
              case measure => simp [intOf]; omega
end Go.Proofs.YtkoinngpmkmocaaDoor
