import Derived.Test.YtkoinngpmkmocaaDoorCG
namespace Go.Proofs.YtkoinngpmkmocaaDoor
open Go.ChangeShapes Go.WideShapes Go.ChangeAt Go.RowKit Go.Maps
set_option maxHeartbeats 400000
set_option maxRecDepth 100000

set_option maxHeartbeats 16000000 in
theorem fields_any (c : Cfg) (w : World) : Calls Tryd.prog 27 #[.agg c.cells] w fun e w' => e = .returned (.bool (nums c && adr c)) ∧ Below w.heap.size w w' := by
  obtain ⟨wc, hwc⟩ : ∃ wc, wc = w.alloc (.cells c.cells 29) := ⟨_, rfl⟩
  have hb0 : Below w.heap.size w wc := by rw [hwc]; exact (Below.refl _ _).alloc (Nat.le_refl _) _
  have q := Cfg.at (w := w) c
  rw [← hwc] at q
  have q0 : ∀ u : Beh wc, u.wd.cell? ⟨w.heap.size, 0, none⟩ = some (.int .u32 (c.net : Int)) := fun u => q u 0 (by omega)
  have q1 : ∀ u : Beh wc, u.wd.cell? ⟨w.heap.size, 1, none⟩ = some (.int .i64 c.nlen) := fun u => q u 1 (by omega)
  have q2 : ∀ u : Beh wc, u.wd.cell? ⟨w.heap.size, 2, none⟩ = some (.int .i64 c.slen) := fun u => q u 2 (by omega)
  have q3 : ∀ u : Beh wc, u.wd.cell? ⟨w.heap.size, 3, none⟩ = some (.int .u32 (c.min : Int)) := fun u => q u 3 (by omega)
  have q4 : ∀ u : Beh wc, u.wd.cell? ⟨w.heap.size, 4, none⟩ = some (.int .u32 (c.max : Int)) := fun u => q u 4 (by omega)
  have q5 : ∀ u : Beh wc, u.wd.cell? ⟨w.heap.size, 5, none⟩ = some (.int .i64 c.vni) := fun u => q u 5 (by omega)
  have q6 : ∀ u : Beh wc, u.wd.cell? ⟨w.heap.size, 6, none⟩ = some (.int .i64 c.port) := fun u => q u 6 (by omega)
  have q7 : ∀ u : Beh wc, u.wd.cell? ⟨w.heap.size, 7, none⟩ = some (.int .i64 c.mtu) := fun u => q u 7 (by omega)
  have q8 : ∀ u : Beh wc, u.wd.cell? ⟨w.heap.size, 8, none⟩ = some (.int .i64 c.ttl) := fun u => q u 8 (by omega)
  have q9 : ∀ u : Beh wc, u.wd.cell? ⟨w.heap.size, 9, none⟩ = some (.int .i64 c.renew) := fun u => q u 9 (by omega)
  have q10 : ∀ u : Beh wc, u.wd.cell? ⟨w.heap.size, 10, none⟩ = some (.int .i64 c.log) := fun u => q u 10 (by omega)
  have q11 : ∀ u : Beh wc, u.wd.cell? ⟨w.heap.size, 11, none⟩ = some (.int .i64 c.hosts) := fun u => q u 11 (by omega)
  have q12 : ∀ u : Beh wc, u.wd.cell? ⟨w.heap.size, 12, none⟩ = some (.int .u32 (c.first : Int)) := fun u => q u 12 (by omega)
  have q13 : ∀ u : Beh wc, u.wd.cell? ⟨w.heap.size, 13, none⟩ = some (.int .i64 c.routes) := fun u => q u 13 (by omega)
  have q14 : ∀ u : Beh wc, u.wd.cell? ⟨w.heap.size, 14, none⟩ = some (.int .i64 c.neighs) := fun u => q u 14 (by omega)
  have q15 : ∀ u : Beh wc, u.wd.cell? ⟨w.heap.size, 15, none⟩ = some (.int .i64 c.fdbs) := fun u => q u 15 (by omega)
  have q16 : ∀ u : Beh wc, u.wd.cell? ⟨w.heap.size, 16, none⟩ = some (.int .i64 c.room) := fun u => q u 16 (by omega)
  have ql : ∀ u : Beh wc, (Instr.loadAt 29 (.pointer (some ⟨w.heap.size, 0, none⟩))).run Tryd.prog u.wd = .ok (.agg c.cells) u.wd := fun u => Cfg.load c (q u)
  have HB : Hid (∀ u : Beh wc, Below w.heap.size w u.wd) := fun u => hb0.trans (u.ok.mono hb0.size)
  have HV : Hid (∀ u : Beh wc, Calls Tryd.prog 53 #[.agg #[.int .u32 (c.net : Int), .int .i64 c.nlen]] u.wd fun e w' => e = .returned (.bool (err (c.net, c.nlen) == 0)) ∧ ∃ u' : Beh wc, w' = u'.wd) := fun u => Calls.beh (refValid_any c.net c.nlen _ c.hnet)
  have HIN : Hid (∀ (u : Beh wc) (n lo hi : Int), Calls Tryd.prog 29 #[.int .i64 n, .int .i64 lo, .int .i64 hi] u.wd fun e w' => e = .returned (.bool (inb n lo hi)) ∧ ∃ u' : Beh wc, w' = u'.wd) := fun u n lo hi => (in_any n lo hi u.wd).mono fun e w' ⟨h1, h2⟩ => ⟨h1, u, h2⟩
  have HCL : Hid (∀ (u : Beh wc) (A : Int) (a : Nat), A = (a : Int) → a < 4294967296 → Calls Tryd.prog 54 #[.int .u32 A] u.wd fun e w' => e = .returned (.int .i64 (cls a)) ∧ ∃ u' : Beh wc, w' = u'.wd) := fun u A a hA ha => by subst hA; exact (refClass_any a u.wd ha).mono fun e w' ⟨h1, h2⟩ => ⟨h1, u, h2⟩
  have HBS : Hid (0 ≤ c.slen ∧ c.slen ≤ 32 → ∀ (u : Beh wc) (a : Nat), a < 4294967296 → Calls Tryd.prog 30 #[.agg c.cells, .int .u32 (a : Int)] u.wd fun e w' => e = .returned (.bool (sub c a)) ∧ ∃ u' : Beh wc, w' = u'.wd) := fun h u a ha => Calls.beh (base_any c a _ ha h)
  have HWC := hid hwc
  obtain ⟨u0, hu0⟩ : ∃ u0 : Beh wc, u0.wd = wc := ⟨⟨wc, Below.refl _ _⟩, rfl⟩
  have HU0 := hid hu0
  obtain ⟨res, hres⟩ : ∃ res, res = (nums c && adr c) := ⟨_, rfl⟩
  rw [← hres]
  have HR := hid hres
  have HNU : Hid (nums c = (inb c.vni 0 16777215 && inb c.port 1 65535 && inb c.mtu 126 9000 && inb c.ttl 2 1099511627776 && inb c.renew 1 (c.ttl - 1) && inb c.log 1 256 && inb c.hosts 1 64 && inb c.routes 1 256 && inb c.neighs 1 256 && inb c.fdbs 1 256 && inb c.room 1 256)) := rfl
  have HAD : Hid (adr c = ((err (c.net, c.nlen) == 0) && (inb c.nlen 8 28 && ((cls c.net == 0) && (inb c.slen (c.nlen + 1) 30 && (sub c c.min && (sub c c.max && plain c))))))) := rfl
  have hnl := c.hnlen
  have httl := c.httl
  have hfst := c.hfirst
  have HMIN := hid c.hmin
  have HMAX := hid c.hmax
  have HNET := hid c.hnet
  clear hwc hb0 q hu0 hres
  generalize c.cells = cc at HWC ql HBS ⊢
  go_enter Tryd.func27, Tryd.ntmps27
  go_upto_region 1 with fail
  rw [← HWC.out, ← HU0.out]
  go_wp2_with fail
  refine (HV.out u0).mono ?_
  rintro _ _ ⟨rfl, u1, rfl⟩
  cases hv : (err (c.net, c.nlen) == 0)
  · have HE : Hid (res = false) := by unfold Hid; rw [HR.out, HAD.out, hv]; simp
    clear hv
    go_wp2_with fail
    go_ret
    exact ⟨ret_bool HE.out.symm, HB.out u1⟩
  have H0 := hid hv
  clear hv
  go_wp2_with fail
  refine (HIN.out u1 _ _ _).mono ?_
  rintro _ _ ⟨rfl, u2, rfl⟩
  cases h1 : inb c.nlen 8 28
  · have HE : Hid (res = false) := by unfold Hid; rw [HR.out, HAD.out, h1]; simp
    clear h1
    go_wp2_with fail
    go_ret
    exact ⟨ret_bool HE.out.symm, HB.out u2⟩
  obtain ⟨n8, n28⟩ := inb_true h1
  have H1 := hid h1
  clear h1
  go_wp2_with fail
  refine (HCL.out u2 _ c.net rfl HNET.out).mono ?_
  rintro _ _ ⟨rfl, u3, rfl⟩
  by_cases h2 : cls c.net = 0
  case neg =>
    have HE : Hid (res = false) := by unfold Hid; rw [HR.out, HAD.out]; simp [h2]
    have h2' : (cls c.net != 0) = true := by simp [h2]
    clear h2
    generalize cls c.net = cl at h2' ⊢
    go_wp2_with fail
    go_ret
    exact ⟨ret_bool HE.out.symm, HB.out u3⟩
  have h2' : (cls c.net != 0) = false := by rw [h2]; rfl
  have H2 := hid h2
  clear h2
  generalize cls c.net = cl at h2' H2 HAD ⊢
  go_wp2_with fail
  refine (HIN.out u3 _ _ _).mono ?_
  rintro _ _ ⟨rfl, u4, rfl⟩
  cases h3 : inb c.slen (c.nlen + 1) 30
  · have HE : Hid (res = false) := by unfold Hid; rw [HR.out, HAD.out, h3]; simp
    clear h3
    go_wp2_with fail
    go_ret
    exact ⟨ret_bool HE.out.symm, HB.out u4⟩
  obtain ⟨s1, s30⟩ := inb_true h3
  have H3 := hid h3
  clear h3
  go_wp2_with (first | (refine wpList_cfg w.heap.size (.tmp 1) rfl rfl (ql _) rfl ?_) | fail)
  refine (HBS.out (by omega) u4 c.min HMIN.out).mono ?_
  rintro _ _ ⟨rfl, u5, rfl⟩
  cases h4 : sub c c.min
  · have HE : Hid (res = false) := by unfold Hid; rw [HR.out, HAD.out, h4]; simp
    clear h4
    go_wp2_with fail
    go_ret
    exact ⟨ret_bool HE.out.symm, HB.out u5⟩
  have H4 := hid h4
  clear h4
  go_wp2_with (first | (refine wpList_cfg w.heap.size (.tmp 1) rfl rfl (ql _) rfl ?_) | fail)
  refine (HBS.out (by omega) u5 c.max HMAX.out).mono ?_
  rintro _ _ ⟨rfl, u6, rfl⟩
  cases h5 : sub c c.max
  · have HE : Hid (res = false) := by unfold Hid; rw [HR.out, HAD.out, h5]; simp
    clear h5
    go_wp2_with fail
    go_ret
    exact ⟨ret_bool HE.out.symm, HB.out u6⟩
  have H5 := hid h5
  clear h5
  have HRES : Hid (res = (nums c && plain c)) := by unfold Hid; rw [HR.out, HAD.out, H0.out, H1.out, H2.out, H3.out, H4.out, H5.out]; simp
  clear HR HAD H0 H1 H2 H3 H4 H5 h2'
  go_wp2_with fail
  refine (HIN.out u6 _ _ _).mono ?_
  rintro _ _ ⟨rfl, u7, rfl⟩
  cases h6 : inb c.vni 0 16777215
  · have HE : Hid (res = false) := by unfold Hid; rw [HRES.out, HNU.out, h6]; simp
    clear h6
    go_wp2_with fail
    go_ret
    exact ⟨ret_bool HE.out.symm, HB.out u7⟩
  have K6 := hid h6
  clear h6
  go_wp2_with fail
  refine (HIN.out u7 _ _ _).mono ?_
  rintro _ _ ⟨rfl, u8, rfl⟩
  cases h7 : inb c.port 1 65535
  · have HE : Hid (res = false) := by unfold Hid; rw [HRES.out, HNU.out, h7]; simp
    clear h7
    go_wp2_with fail
    go_ret
    exact ⟨ret_bool HE.out.symm, HB.out u8⟩
  have K7 := hid h7
  clear h7
  go_wp2_with fail
  refine (HIN.out u8 _ _ _).mono ?_
  rintro _ _ ⟨rfl, u9, rfl⟩
  cases h8 : inb c.mtu 126 9000
  · have HE : Hid (res = false) := by unfold Hid; rw [HRES.out, HNU.out, h8]; simp
    clear h8
    go_wp2_with fail
    go_ret
    exact ⟨ret_bool HE.out.symm, HB.out u9⟩
  have K8 := hid h8
  clear h8
  go_wp2_with fail
  refine (HIN.out u9 _ _ _).mono ?_
  rintro _ _ ⟨rfl, u10, rfl⟩
  cases h9 : inb c.ttl 2 1099511627776
  · have HE : Hid (res = false) := by unfold Hid; rw [HRES.out, HNU.out, h9]; simp
    clear h9
    go_wp2_with fail
    go_ret
    exact ⟨ret_bool HE.out.symm, HB.out u10⟩
  obtain ⟨k9a, k9b⟩ := inb_true h9
  have K9 := hid h9
  clear h9
  go_wp2_with fail
  refine (HIN.out u10 _ _ _).mono ?_
  rintro _ _ ⟨rfl, u11, rfl⟩
  cases h10 : inb c.renew 1 (c.ttl - 1)
  · have HE : Hid (res = false) := by unfold Hid; rw [HRES.out, HNU.out, h10]; simp
    clear h10
    go_wp2_with fail
    go_ret
    exact ⟨ret_bool HE.out.symm, HB.out u11⟩
  have K10 := hid h10
  clear h10
  go_wp2_with fail
  refine (HIN.out u11 _ _ _).mono ?_
  rintro _ _ ⟨rfl, u12, rfl⟩
  cases h11 : inb c.log 1 256
  · have HE : Hid (res = false) := by unfold Hid; rw [HRES.out, HNU.out, h11]; simp
    clear h11
    go_wp2_with fail
    go_ret
    exact ⟨ret_bool HE.out.symm, HB.out u12⟩
  have K11 := hid h11
  clear h11
  go_wp2_with fail
  refine (HIN.out u12 _ _ _).mono ?_
  rintro _ _ ⟨rfl, u13, rfl⟩
  cases h12 : inb c.hosts 1 64
  · have HE : Hid (res = false) := by unfold Hid; rw [HRES.out, HNU.out, h12]; simp
    clear h12
    go_wp2_with fail
    go_ret
    exact ⟨ret_bool HE.out.symm, HB.out u13⟩
  obtain ⟨k12a, k12b⟩ := inb_true h12
  have K12 := hid h12
  clear h12
  go_wp2_with fail
  refine (HIN.out u13 _ _ _).mono ?_
  rintro _ _ ⟨rfl, u14, rfl⟩
  cases h13 : inb c.routes 1 256
  · have HE : Hid (res = false) := by unfold Hid; rw [HRES.out, HNU.out, h13]; simp
    clear h13
    go_wp2_with fail
    go_ret
    exact ⟨ret_bool HE.out.symm, HB.out u14⟩
  have K13 := hid h13
  clear h13
  go_wp2_with fail
  refine (HIN.out u14 _ _ _).mono ?_
  rintro _ _ ⟨rfl, u15, rfl⟩
  cases h14 : inb c.neighs 1 256
  · have HE : Hid (res = false) := by unfold Hid; rw [HRES.out, HNU.out, h14]; simp
    clear h14
    go_wp2_with fail
    go_ret
    exact ⟨ret_bool HE.out.symm, HB.out u15⟩
  have K14 := hid h14
  clear h14
  go_wp2_with fail
  refine (HIN.out u15 _ _ _).mono ?_
  rintro _ _ ⟨rfl, u16, rfl⟩
  cases h15 : inb c.fdbs 1 256
  · have HE : Hid (res = false) := by unfold Hid; rw [HRES.out, HNU.out, h15]; simp
    clear h15
    go_wp2_with fail
    go_ret
    exact ⟨ret_bool HE.out.symm, HB.out u16⟩
  have K15 := hid h15
  clear h15
  go_wp2_with fail
  refine (HIN.out u16 _ _ _).mono ?_
  rintro _ _ ⟨rfl, u17, rfl⟩
  cases h16 : inb c.room 1 256
  · have HE : Hid (res = false) := by unfold Hid; rw [HRES.out, HNU.out, h16]; simp
    clear h16
    go_wp2_with fail
    go_ret
    exact ⟨ret_bool HE.out.symm, HB.out u17⟩
  have K16 := hid h16
  clear h16
  have HRP : Hid (res = plain c) := by unfold Hid; rw [HRES.out, HNU.out, K6.out, K7.out, K8.out, K9.out, K10.out, K11.out, K12.out, K13.out, K14.out, K15.out, K16.out]; simp
  clear HRES HNU K6 K7 K8 K9 K10 K11 K12 K13 K14 K15 K16
  obtain ⟨n, hn⟩ : ∃ n : Nat, c.hosts = (n : Int) := ⟨c.hosts.toNat, by omega⟩
  have HPL : Hid (plain c = (List.range n).all (plainAt c)) := by unfold Hid plain; rw [hn]; rfl
  have hn64 : n ≤ 64 := by omega
  rw [hn] at q11
  clear hn
  go_wp2_with fail
  go_loopw [3] (fun i wr => ∃ (j : Nat) (u : Beh wc), i = .int .i64 j ∧ j ≤ n ∧ wr = u.wd ∧ Hid (∀ h, h < j → plainAt c h = true)) (fun i _ => n - (intOf i).toNat)
  case atStart => exact ⟨0, u17, rfl, by omega, rfl, fun h hh => by omega⟩
  case round =>
    obtain ⟨j, u, rfl, hj, rfl, HJ⟩ := hrel
    by_cases hjn : j < n
    · by_cases hlt : c.first + j < 4294967296
      · have HC := hid (HCL.out u ((c.first : Int) + (j : Int)) (c.first + j) (by omega) hlt)
        by_cases hc : cls (c.first + j) = 0
        · have hc' : (cls (c.first + j) != 0) = false := by rw [hc]; rfl
          have HP : Hid (plainAt c j = true) := by unfold Hid plainAt; simp [hlt, hc]
          clear hc
          generalize cls (c.first + j) = cl2 at HC hc'
          go_wp2_with fail
          refine HC.out.mono ?_
          rintro _ _ ⟨rfl, v1, rfl⟩
          go_wp2_with fail
          go_roundw
          case rel => exact ⟨j + 1, v1, by go_num, by omega, rfl, fun h hh => if e : h = j then by rw [e]; exact HP.out else HJ.out h (by omega)⟩
          case measure => simp [intOf]; omega
        · have hc' : (cls (c.first + j) != 0) = true := by simp [hc]
          have HP : Hid (res = false) := by unfold Hid; rw [HRP.out, HPL.out]; exact all_false hjn (by unfold plainAt; simp [hc])
          clear hc
          generalize cls (c.first + j) = cl2 at HC hc'
          go_wp2_with fail
          refine HC.out.mono ?_
          rintro _ _ ⟨rfl, v1, rfl⟩
          go_wp2_with fail
          go_ret
          exact ⟨ret_bool HP.out.symm, HB.out v1⟩
      · have HP : Hid (res = false) := by unfold Hid; rw [HRP.out, HPL.out]; exact all_false hjn (by unfold plainAt; simp [hlt])
        go_wp2_with fail
        go_ret
        exact ⟨ret_bool HP.out.symm, HB.out u⟩
    · have HP : Hid (res = true) := by unfold Hid; rw [HRP.out, HPL.out]; exact all_true fun h hh => HJ.out h (by omega)
      go_wp2_with fail
      go_ret
      exact ⟨ret_bool HP.out.symm, HB.out u⟩
end Go.Proofs.YtkoinngpmkmocaaDoor
