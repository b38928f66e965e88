import Derived.Test.YtjjmopmdiflffabBL
namespace Go.Proofs.Ytjjmopmdiflffab
open Go.ChangeShapes Go.WideShapes Go.ChangeAt Go.RowKit
set_option maxHeartbeats 1000000
set_option maxRecDepth 100000

/-- A packet that is cut off. -/
theorem cut_facts (h : Hd) (B : List Nat) (hok : h.Ok) (he : refE h B.length = 0) (n : Nat) (hn : n ≤ 20 + h.opts.length + B.length) :
    (n < 20 + h.opts.length → ∀ wh, exam ((builtL h B).take n) wh = (0, 0, 30)) ∧
    (20 + h.opts.length ≤ n → exam ((builtL h B).take n) false = (20 + h.opts.length, 20 + h.opts.length + B.length, 0) ∧ rdH ((builtL h B).take n) (20 + h.opts.length) = h) ∧
    (20 + h.opts.length ≤ n → n < 20 + h.opts.length + B.length → exam ((builtL h B).take n) true = (0, 0, 30)) := by
  obtain ⟨x1, x2, x3, x4⟩ := parse_built h B [] hok he true
  rw [List.append_nil] at x1
  have x2' : (builtL h B).length = 20 + h.opts.length + B.length := x2
  have h1 : (exam (builtL h B) true).2.2 = 0 := by rw [x1]
  obtain ⟨f1, f2, f3⟩ := exam_ok h1
  obtain ⟨a1, a2, a3, a4, a5, a6, a7⟩ := lens_ok f1
  rw [← f3, x1] at f2 a6 a7
  simp only at f2 a6 a7
  have a7' : w16 (builtL h B) 2 = 20 + h.opts.length + B.length := a7.symm
  have f2' : hdE ((builtL h B).take (20 + h.opts.length)) (20 + h.opts.length + B.length - (20 + h.opts.length)) = 0 := f2
  have hv : byt (builtL h B) 0 / 16 = 4 := by
    unfold lens at f1
    by_cases h1 : (builtL h B).length < 20
    · rw [if_pos h1] at f1; cases f1
    · rw [if_neg h1] at f1
      by_cases h2 : byt (builtL h B) 0 / 16 ≠ 4
      · rw [if_pos h2] at f1; cases f1
      · exact Decidable.not_not.1 h2
  generalize builtL h B = bl at *
  have hl : (bl.take n).length = n := by rw [List.length_take]; omega
  have hbt : ∀ i, i < 20 → 20 ≤ n → byt (bl.take n) i = byt bl i := fun i hi h20 => byt_take (by omega)
  have hw : 20 ≤ n → w16 (bl.take n) 2 = 20 + h.opts.length + B.length := fun h20 => by
    unfold w16; rw [hbt 2 (by omega) h20, hbt 3 (by omega) h20]; exact a7'
  have e30 : ∀ wh, (lens (bl.take n) wh).2.2 = 30 → exam (bl.take n) wh = (0, 0, 30) := fun wh h3 => by
    unfold exam; rw [if_pos (by rw [h3]; simp), h3]
  refine ⟨fun hlt wh => e30 wh ?_, fun hge => ?_, fun hge hlt => e30 true ?_⟩
  · unfold lens
    rw [hl]
    by_cases h20 : n < 20
    · rw [if_pos h20]
    · rw [if_neg h20, hbt 0 (by omega) (by omega), if_neg (by omega), if_neg (by omega), if_pos (by omega)]
  · have hlens : lens (bl.take n) false = (20 + h.opts.length, 20 + h.opts.length + B.length, 0) := by
      unfold lens
      rw [hl, hbt 0 (by omega) (by omega), hw (by omega), if_neg (by omega), if_neg (by omega), if_neg (by omega), if_neg (by omega), if_neg (by omega), if_neg (by simp), ← a6]
    have htt : (bl.take n).take (20 + h.opts.length) = bl.take (20 + h.opts.length) := by rw [List.take_take, Nat.min_eq_left hge]
    refine ⟨?_, ?_⟩
    · unfold exam
      rw [hlens]
      simp only
      rw [if_neg (by simp), htt, if_neg (by rw [f2']; simp)]
    · refine Eq.trans ?_ x3
      unfold rdH w32 w16
      rw [htt]
      simp only [hbt 1 (by omega) (by omega), hbt 4 (by omega) (by omega), hbt 5 (by omega) (by omega), hbt 6 (by omega) (by omega), hbt 7 (by omega) (by omega), hbt 8 (by omega) (by omega), hbt 9 (by omega) (by omega), hbt 12 (by omega) (by omega), hbt 13 (by omega) (by omega), hbt 14 (by omega) (by omega), hbt 15 (by omega) (by omega), hbt 16 (by omega) (by omega), hbt 17 (by omega) (by omega), hbt 18 (by omega) (by omega), hbt 19 (by omega) (by omega)]
  · unfold lens
    rw [hl, hbt 0 (by omega) (by omega), hw (by omega), if_neg (by omega), if_neg (by omega), if_neg (by omega), if_neg (by omega), if_neg (by omega), if_pos ⟨rfl, hlt⟩]

theorem cutoff_bad (h : Hd) (vo vb : Value) (B : List Nat) (k : Int) (w : World) (hok : h.Ok) (hvo : SeesB w vo h.opts) (hvb : SeesB w vb B) (hlo : h.opts.length ≤ 140737488355328) (hlb : B.length ≤ 140737488355328) (he : refE h B.length ≠ 0) :
    Calls Try.prog 11 #[.agg (pkCells h vo vb), .int .i64 k] w fun e w' => e = .returned (.bool true) ∧ Below w.heap.size w w' := by
  obtain ⟨w1, hw1⟩ : ∃ w1, w1 = w.alloc (.cells (pkCells h vo vb) 29) := ⟨_, rfl⟩
  have hb1 : Below w.heap.size w w1 := by rw [hw1]; exact (Below.refl _ _).alloc (Nat.le_refl _) _
  have hk1 : w1.heap[w.heap.size]? = some (.cells (pkCells h vo vb) 29) := by rw [hw1]; exact heap_alloc_new w _
  have HBD := hid (build_code h vo vb B w1 hok (hvo.below hb1) (hvb.below hb1) hlo hlb)
  have HL1 := hid (pk_load hk1)
  have HNIL : Hid (builtL h B = []) := by unfold Hid builtL; rw [if_neg he]
  have HW1 := hid hw1
  have HB1 := hid hb1
  generalize refE h B.length = q at *
  have hq : (q != 0) = true := by simp [he]
  generalize pkCells h vo vb = pk at *
  clear hw1 hb1 hk1 hvo hvb he
  go_enter Try.func11, Try.ntmps11
  go_upto_region 1 with fail
  rw [← HW1.out]
  go_wp2_with (first | (refine wpList_ld 29 ⟨w.heap.size, 0, none⟩ (.tmp 2) rfl rfl HL1.out rfl ?_) | fail)
  refine HBD.out.mono ?_
  rintro _ w2 ⟨a1, n1, c1, rfl, h1, hb2⟩
  rw [HNIL.out] at h1
  obtain rfl : n1 = 0 := by
    obtain ⟨_, _, hv, _⟩ := h1
    simp at hv; exact hv.2.1
  clear h1
  go_wp2_with fail
  go_ret
  exact ⟨rfl, HB1.out.trans (hb2.mono HB1.out.size)⟩

set_option maxHeartbeats 2000000 in
theorem cutoff_good (h : Hd) (vo vb : Value) (B : List Nat) (k : Nat) (w : World) (hok : h.Ok) (hvo : SeesB w vo h.opts) (hvb : SeesB w vb B) (_ : k ≤ 9223372036854775807) (he : refE h B.length = 0) :
    Calls Try.prog 11 #[.agg (pkCells h vo vb), .int .i64 (k : Int)] w fun e w' => e = .returned (.bool true) ∧ Below w.heap.size w w' := by
  obtain ⟨r1, r2, r3⟩ := refE_ok he
  obtain ⟨w1, hw1⟩ : ∃ w1, w1 = w.alloc (.cells (pkCells h vo vb) 29) := ⟨_, rfl⟩
  have hb1 : Below w.heap.size w w1 := by rw [hw1]; exact (Below.refl _ _).alloc (Nat.le_refl _) _
  have hs1 : w1.heap.size = w.heap.size + 1 := by rw [hw1]; simp
  have HK : Hid (∀ u, Below w1.heap.size w1 u → u.heap[w.heap.size]? = some (.cells (pkCells h vo vb) 29)) := fun u hu => by
    rw [hu.block _ (by omega), hw1]; exact heap_alloc_new w _
  have HLK : Hid (∀ u, Below w1.heap.size w1 u → (Instr.loadAt 29 (.pointer (some ⟨w.heap.size, 0, none⟩))).run Try.prog u = .ok (.agg (pkCells h vo vb)) u) := fun u hu => pk_load (HK.out u hu)
  have HLH : Hid (∀ u, Below w1.heap.size w1 u → (Instr.loadAt 27 (.pointer (some ⟨w.heap.size, 0, none⟩))).run Try.prog u = .ok (.agg (hdCells h vo)) u) := fun u hu => pk_loadH (HK.out u hu)
  have HBD := build_code h vo vb B w1 hok (hvo.below hb1) (hvb.below hb1) (by omega) (by omega)
  rw [he] at HBD
  have HBD := hid HBD
  obtain ⟨m, hm⟩ : ∃ m, m = min k (20 + h.opts.length + B.length) := ⟨_, rfl⟩
  have hml : m ≤ 20 + h.opts.length + B.length := by omega
  obtain ⟨g1, g2, g3⟩ := cut_facts h B hok he m hml
  obtain ⟨_, x2, x3, x4⟩ := parse_built h B [] hok he true
  have x2' : (builtL h B).length = 20 + h.opts.length + B.length := x2
  have hYl : ((builtL h B).take m).length = m := by rw [List.length_take]; omega
  obtain ⟨PR, hPR⟩ : ∃ PR, PR = readL ((builtL h B).take m) false := ⟨_, rfl⟩
  obtain ⟨QR, hQR⟩ : ∃ QR, QR = parsed ((builtL h B).take m) := ⟨_, rfl⟩
  have HA : Hid (m < 20 + h.opts.length → PR = (zeroH, [], 30) ∧ QR = (zeroH, [], 30)) := fun hlt => by
    refine ⟨?_, ?_⟩
    · rw [hPR]; unfold readL; rw [g1 hlt false]; rfl
    · rw [hQR]; unfold parsed; rw [g1 hlt true]; rfl
  have HBp : Hid (20 + h.opts.length ≤ m → PR = (h, ((builtL h B).take m).drop (20 + h.opts.length), 0)) := fun hge => by
    rw [hPR]; unfold readL
    rw [(g2 hge).1]
    simp only
    rw [if_pos trivial, List.take_of_length_le (by rw [hYl]; omega), (g2 hge).2]
  have HBq : Hid (20 + h.opts.length ≤ m → m < 20 + h.opts.length + B.length → QR = (zeroH, [], 30)) := fun hge hlt => by
    rw [hQR]; unfold parsed; rw [g3 hge hlt]; rfl
  have HCq : Hid (m = 20 + h.opts.length + B.length → QR = (h, B, 0)) := fun hq => by
    obtain ⟨z1, _, _, _⟩ := parse_built h B [] hok he true
    rw [List.append_nil] at z1
    rw [hQR, hq, List.take_of_length_le (by omega)]
    unfold parsed
    rw [z1]
    simp only
    rw [if_pos trivial, List.take_of_length_le (by rw [x2]; exact Nat.le_refl _), x3, x4]
  have HBY : Hid (∀ x ∈ builtL h B, x < 256) := built_bytes hok hvo.bytes hvb.bytes
  have HPC : Hid (∀ (u : World) (v : Value), SeesB u v ((builtL h B).take m) → Calls Try.prog 21 #[v] u fun e w' => ∃ vo vb, e = .returned (.tuple #[.agg (pkCells QR.1 vo vb), .int .i64 QR.2.2]) ∧ SeesB w' vo QR.1.opts ∧ SeesB w' vb QR.2.1 ∧ Below u.heap.size u w') := fun u v hv => by
    rw [hQR]; exact parse_code v _ u hv (by rw [hYl]; omega)
  have HPK : Hid (∀ (u : World) (v : Value), SeesB u v ((builtL h B).take m) → Calls Try.prog 19 #[v] u fun e w' => ∃ vo vb, e = .returned (.tuple #[.agg (hdCells PR.1 vo), vb, .int .i64 PR.2.2]) ∧ SeesB w' vo PR.1.opts ∧ SeesB w' vb PR.2.1 ∧ Below u.heap.size u w') := fun u v hv => by
    rw [hPR]; exact read_false v _ u hv (by rw [hYl]; omega)
  have HLEN : Hid ((builtL h B).length = 20 + h.opts.length + B.length) := x2
  have HYL := hid hYl
  have HVO := hid hvo
  have HVB := hid hvb
  obtain ⟨ao, n, cap, rfl, HN, hn1, hn2⟩ := hvo.shape
  obtain ⟨ab, nb, capb, rfl, HNB, hnb1, hnb2⟩ := hvb.shape
  have HCC : Hid (∀ u, Below w1.heap.size w1 u → u.cell? ⟨w.heap.size, 9, none⟩ = some (.slice ao n cap)) := fun u hu => pk_at (HK.out u hu) 9 (by omega)
  have HBW : Hid (∀ u, Below w1.heap.size w1 u → Below w.heap.size w u) := fun u hu => hb1.trans (hu.mono hb1.size)
  have HL1 := hid (HLK.out _ (Below.refl _ _))
  have HW1 := hid hw1
  have hnn : n + nb ≤ 65515 := by have := HN.out; have := HNB.out; omega
  simp only [← HN.out, ← HNB.out] at HLEN HA HBp HBq HCq hm hml
  have HM : Hid (m = min k (20 + n + nb)) := hm
  clear hw1 hb1 hs1 hvo hvb he r1 r2 r3 x2 x2' x3 x4 g1 g2 g3 hPR hQR hok hYl HK hm
  generalize builtL h B = bl at *
  generalize hpk : pkCells h (.slice ao n cap) (.slice ab nb capb) = pk at *
  have HPKE := hid hpk
  obtain ⟨PH, PB, pe⟩ := PR
  obtain ⟨QH, QB, qe⟩ := QR
  simp only at HPC HPK
  clear hpk
  go_enter Try.func11, Try.ntmps11
  go_upto_region 1 with fail
  rw [← HW1.out]
  go_wp2_with (first | (refine wpList_ld 29 ⟨w.heap.size, 0, none⟩ (.tmp 2) rfl rfl HL1.out rfl ?_) | fail)
  refine HBD.out.mono ?_
  rintro _ w2 ⟨a1, l, c1, rfl, h1, hb2⟩
  have hle : l = 20 + n + nb := by
    obtain ⟨_, _, hv, _⟩ := h1
    simp at hv
    rw [hv.2.1, HLEN.out]
  have hlc : l ≤ c1 := by obtain ⟨_, _, hv, hh, _⟩ := h1; simp at hv; obtain ⟨rfl, rfl, rfl⟩ := hv; exact hh.1
  have HLE := hid hle
  have hml' : m ≤ l := by omega
  obtain ⟨ah, HSH, hhigh⟩ := h1.high m (m : Int) rfl hml'
  have HS1 := hid h1
  have HB2 := hid hb2
  have e9 := HCC.out _ hb2
  have hl65 : l ≤ 65535 := by omega
  clear h1 hb2 hle
  go_upto_if 26 with fail
  go_cut [1] from 27 (fun p wx => p = .int .i64 (m : Int) ∧ w2 = wx)
  case first =>
    by_cases hq : k ≤ l
    · have HLL : Hid ((k : Int) = (m : Int)) := by unfold Hid; have := HM.out; have := HLE.out; omega
      have hq' : (k : Int) ≤ (l : Int) := by omega
      clear hq
      go_wp2_with fail
      go_meet
      case rel => exact ⟨by rw [HLL.out], rfl⟩
    · have HLL : Hid ((l : Int) = (m : Int)) := by unfold Hid; have := HM.out; have := HLE.out; omega
      have hq' : (l : Int) < (k : Int) := by omega
      clear hq
      go_wp2_with fail
      go_meet
      case rel => exact ⟨by rw [HLL.out], rfl⟩
  case rest =>
  obtain ⟨rfl, rfl⟩ := hcut
  have HCA := hid (lclone_any _ (bl.take m) w2 HSH.out (by rw [HYL.out]; omega))
  have HBT : Hid (∀ x ∈ bl.take m, x < 256) := fun x hx => HBY.out x (List.mem_of_mem_take hx)
  go_wp2_with fail
  refine HCA.out.mono ?_
  rintro _ w3 ⟨v3, rfl, hO3, hb3⟩
  have hs3 := hO3.sees HBT.out
  obtain ⟨a3, n3, c3, rfl, _, _, _⟩ := hs3.shape
  have HPR := hid (HPK.out w3 _ hs3)
  have HB3 := hid hb3
  clear hO3 hs3 hb3 HCA e9
  go_wp2_with fail
  refine HPR.out.mono ?_
  rintro _ w4 ⟨va, xa, rfl, ha, ka, hb4⟩
  obtain ⟨a4, n4, c4, rfl, _, _, _⟩ := ha.shape
  obtain ⟨a5, n5, c5, rfl, HN5, _, _⟩ := ka.shape
  obtain ⟨pb, hpb⟩ : ∃ pb : Array Value, pb = hdCells PH (.slice a4 n4 c4) := ⟨_, rfl⟩
  have HPB := hid hpb
  have hpz : pb.size = Z27c.size := by rw [hpb]; rfl
  have HZB : Hid ((Try.prog.info? 27).map (·.size) = some pb.size) := by unfold Hid; rw [hpb]; exact size27
  have HOB : Hid (pb.all (·.oneCell') = true) := by unfold Hid; rw [hpb]; exact hd_one _ _ _ _
  have HTB := hid (new_there (u := w4) (T := 27) hpz)
  have HNW := new_put (u := w4) (T := 27) hpz
  obtain ⟨w5, hw5⟩ : ∃ w5, w5 = (w4.alloc (.cells Z27c 27)).setCells w4.heap.size 0 pb.toList := ⟨_, rfl⟩
  rw [← hw5] at HNW
  have HW5 : Hid (w5 = (w4.alloc (.cells #[.int .u8 0, .int .u16 0, .bool false, .bool false, .int .i64 0, .int .u8 0, .int .u8 0, .int .u32 0, .int .u32 0, .slice none 0 0] 27)).setCells w4.heap.size 0 pb.toList) := hw5
  have hb25 : Below w2.heap.size w2 w5 := (HB3.out.trans (hb4.mono HB3.out.size)).trans (HNW.below.mono (Nat.le_trans HB3.out.size hb4.size))
  have HA5 := hid (ha.below HNW.below)
  have HK5 := hid (ka.below HNW.below)
  have HNW5 := hid HNW
  have HB25 := hid hb25
  have HCA := hid (lclone_any _ (bl.take m) w5 (HSH.out.below hb25) (by rw [HYL.out]; omega))
  rw [← hpb]
  clear hpb hpz hw5 hb4 ha ka hb25 HPR HNW
  go_upto_region 8 with (first
    | (refine wpList_store_mid rfl 27 (.tmp 8) (.tmp 40) rfl w4.heap.size 0 pb rfl rfl HTB.out HZB.out HOB.out ?_)
    | fail)
  rw [← HW5.out]
  go_wp2_with fail
  refine HCA.out.mono ?_
  rintro _ w6 ⟨v6, rfl, hO6, hb6⟩
  have hs6 := hO6.sees HBT.out
  obtain ⟨a6, n6, c6, rfl, _, _, _⟩ := hs6.shape
  have HPR := hid (HPC.out w6 _ hs6)
  have HB6 := hid hb6
  clear hO6 hs6 hb6 HCA
  go_wp2_with fail
  refine HPR.out.mono ?_
  rintro _ w7 ⟨vc, xc, rfl, hc, kc, hb7⟩
  obtain ⟨a7, n7, c7, rfl, _, _, _⟩ := hc.shape
  obtain ⟨a8, n8, c8, rfl, _, _, _⟩ := kc.shape
  obtain ⟨pa, hpa⟩ : ∃ pa : Array Value, pa = pkCells QH (.slice a7 n7 c7) (.slice a8 n8 c8) := ⟨_, rfl⟩
  have HPA := hid hpa
  have hpz : pa.size = Z29.size := by rw [hpa]; rfl
  have HZA : Hid ((Try.prog.info? 29).map (·.size) = some pa.size) := by unfold Hid; rw [hpa]; exact size29'
  have HOA : Hid (pa.all (·.oneCell') = true) := by unfold Hid; rw [hpa]; simp [pkCells, Value.oneCell']
  have HTA := hid (new_there (u := w7) (T := 29) hpz)
  have HNW := new_put (u := w7) (T := 29) hpz
  obtain ⟨w8, hw8⟩ : ∃ w8, w8 = (w7.alloc (.cells Z29 29)).setCells w7.heap.size 0 pa.toList := ⟨_, rfl⟩
  rw [← hw8] at HNW
  have HW8 : Hid (w8 = (w7.alloc (.cells #[.int .u8 0, .int .u16 0, .bool false, .bool false, .int .i64 0, .int .u8 0, .int .u8 0, .int .u32 0, .int .u32 0, .slice none 0 0, .slice none 0 0] 29)).setCells w7.heap.size 0 pa.toList) := hw8
  have hb58 : Below w5.heap.size w5 w8 := (HB6.out.trans (hb7.mono HB6.out.size)).trans (HNW.below.mono (Nat.le_trans HB6.out.size hb7.size))
  have hb28 : Below w2.heap.size w2 w8 := HB25.out.trans (hb58.mono HB25.out.size)
  have hb18 : Below w1.heap.size w1 w8 := HB2.out.trans (hb28.mono HB2.out.size)
  have HLB := hid (load_range (range_grow HNW5.out.range hb58 HNW5.out.lt) und27 HZB.out)
  have HLA : Hid (∀ u, Below w8.heap.size w8 u → (Instr.loadAt 29 (.pointer (some ⟨w7.heap.size, 0, none⟩))).run Try.prog u = .ok (.agg pa) u) := fun u hu => load_range (range_grow HNW.range hu HNW.lt) und29 HZA.out
  have HB58 := hid hb58
  have HB28 := hid hb28
  have HB18 := hid hb18
  have HC8 := hid (hc.below HNW.below)
  have HK8 := hid (kc.below HNW.below)
  rw [← hpa]
  clear hpa hpz hw8 hb7 hc kc hb58 hb28 hb18 HPR HNW
  go_upto_region 9 with (first
    | (refine wpList_store_mid rfl 29 (.tmp 11) (.tmp 49) rfl w7.heap.size 0 pa rfl rfl HTA.out HZA.out HOA.out ?_)
    | fail)
  rw [← HW8.out]
  by_cases hA : m < 20 + n
  · obtain ⟨hP, hQ⟩ := HA.out hA
    simp only [Prod.mk.injEq] at hP hQ
    obtain ⟨rfl, rfl, rfl⟩ := hP
    obtain ⟨rfl, rfl, rfl⟩ := hQ
    obtain rfl : n5 = 0 := HN5.out
    have hA' : (m : Int) < 20 + (n : Int) := by omega
    go_wp2_with fail
    go_ret
    exact ⟨rfl, HBW.out _ HB18.out⟩
  · have hP := HBp.out (by omega)
    simp only [Prod.mk.injEq] at hP
    obtain ⟨rfl, rfl, rfl⟩ := hP
    have hA' : 20 + (n : Int) ≤ (m : Int) := by omega
    have hml2 : (m : Int) ≤ (l : Int) := by omega
    obtain ⟨am, HSM0, hmid⟩ := HS1.out.mid (20 + n) m (20 + (n : Int)) (m : Int) (by omega) rfl (by omega) (by omega)
    have HHD : Hid (Calls Try.prog 22 #[.agg pb, .agg (hdCells PH (.slice ao n cap))] w8 fun e w' => e = .returned (.bool true) ∧ Below w8.heap.size w8 w') := by
      unfold Hid
      rw [HPB.out]
      exact heads_same PH _ _ w8 (HA5.out.below HB58.out) (HVO.out.below (HBW.out _ HB18.out))
    have HLH8 := hid (HLH.out _ HB18.out)
    have HSM : Hid (∀ u, Below w8.heap.size w8 u → Calls Try.prog 23 #[.slice a5 n5 c5, .slice am (m - (20 + n)) (c1 - (20 + n))] u fun e w' => e = .returned (.bool true) ∧ Below u.heap.size u w') := fun u hu => by
      have := same_any (.slice a5 n5 c5) (.slice am (m - (20 + n)) (c1 - (20 + n))) ((bl.take m).drop (20 + n)) ((bl.take m).drop (20 + n)) u ((HK5.out.below HB58.out).below hu) ((HSM0.out.below HB28.out).below hu)
      rw [decide_eq_true rfl] at this
      exact this
    have HBX : Hid (∀ u, Below w8.heap.size w8 u → Below w1.heap.size w1 u) := fun u hu => HB18.out.trans (hu.mono HB18.out.size)
    generalize hhc : hdCells PH (.slice ao n cap) = hc0 at HHD HLH8
    clear hhc HSM0
    generalize m - (20 + n) = d1 at *
    generalize c1 - (20 + n) = d2 at *
    by_cases hB : m < l
    · have hQ := HBq.out (by omega) (by have := HLE.out; omega)
      simp only [Prod.mk.injEq] at hQ
      obtain ⟨rfl, rfl, rfl⟩ := hQ
      have hB' : (m : Int) < (l : Int) := by omega
      have HPKT : Hid (∀ u, Below w8.heap.size w8 u → Calls Try.prog 24 #[.agg pa, .agg #[.int .u8 0, .int .u16 0, .bool false, .bool false, .int .i64 0, .int .u8 0, .int .u8 0, .int .u32 0, .int .u32 0, .slice none 0 0, .slice none 0 0]] u fun e w' => e = .returned (.bool true) ∧ Below u.heap.size u w') := fun u hu => by
        rw [HPA.out]
        exact packets_same zeroH [] (.slice a7 n7 c7) (.slice none 0 0) (.slice a8 n8 c8) (.slice none 0 0) u (HC8.out.below hu) (sees_nil _) (HK8.out.below hu) (sees_nil _)
      go_wp2_with (first
        | (refine wpList_ld 27 ⟨w4.heap.size, 0, none⟩ (.tmp 8) rfl rfl HLB.out rfl ?_)
        | (refine wpList_ld 27 ⟨w.heap.size, 0, none⟩ (.tmp 69) rfl rfl HLH8.out rfl ?_)
        | fail)
      refine HHD.out.mono ?_
      rintro _ w9 ⟨rfl, hb9⟩
      go_wp2_with fail
      refine (HSM.out _ hb9).mono ?_
      rintro _ w10 ⟨rfl, hb10⟩
      have hb810 := hb9.trans (hb10.mono hb9.size)
      have HLA10 := hid (HLA.out _ hb810)
      go_wp2_with (first
        | (refine wpList_ld 29 ⟨w7.heap.size, 0, none⟩ (.tmp 11) rfl rfl HLA10.out rfl ?_)
        | fail)
      refine (HPKT.out _ hb810).mono ?_
      rintro _ w11 ⟨rfl, hb11⟩
      go_wp2_with fail
      go_ret
      exact ⟨rfl, HBW.out _ (HBX.out _ (hb810.trans (hb11.mono hb810.size)))⟩
    · have hQ := HCq.out (by have := HLE.out; omega)
      simp only [Prod.mk.injEq] at hQ
      obtain ⟨rfl, rfl, rfl⟩ := hQ
      have hB' : (l : Int) ≤ (m : Int) := by omega
      have HPKT : Hid (∀ u, Below w8.heap.size w8 u → Calls Try.prog 24 #[.agg pk, .agg pa] u fun e w' => e = .returned (.bool true) ∧ Below u.heap.size u w') := fun u hu => by
        rw [HPA.out, ← HPKE.out]
        have hbu := HBW.out _ (HBX.out _ hu)
        exact packets_same QH QB _ _ _ _ u (HVO.out.below hbu) (HC8.out.below hu) (HVB.out.below hbu) (HK8.out.below hu)
      go_wp2_with (first
        | (refine wpList_ld 27 ⟨w4.heap.size, 0, none⟩ (.tmp 8) rfl rfl HLB.out rfl ?_)
        | (refine wpList_ld 27 ⟨w.heap.size, 0, none⟩ (.tmp 69) rfl rfl HLH8.out rfl ?_)
        | fail)
      refine HHD.out.mono ?_
      rintro _ w9 ⟨rfl, hb9⟩
      go_wp2_with fail
      refine (HSM.out _ hb9).mono ?_
      rintro _ w10 ⟨rfl, hb10⟩
      have hb810 := hb9.trans (hb10.mono hb9.size)
      have HLA10 := hid (HLA.out _ hb810)
      have HLK10 := hid (HLK.out _ (HBX.out _ hb810))
      go_wp2_with (first
        | (refine wpList_ld 29 ⟨w.heap.size, 0, none⟩ (.tmp 2) rfl rfl HLK10.out rfl ?_)
        | (refine wpList_ld 29 ⟨w7.heap.size, 0, none⟩ (.tmp 11) rfl rfl HLA10.out rfl ?_)
        | fail)
      refine (HPKT.out _ hb810).mono ?_
      rintro _ w11 ⟨rfl, hb11⟩
      go_wp2_with fail
      go_ret
      exact ⟨rfl, HBW.out _ (HBX.out _ (hb810.trans (hb11.mono hb810.size)))⟩
end Go.Proofs.Ytjjmopmdiflffab
