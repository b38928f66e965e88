import Derived.Test.YthmhiehglcfepaaGreatDoorEX
namespace Go.Proofs.YthmhiehglcfepaaGreatDoor.Fl
open Go.Proofs.YthmhiehglcfepaaGreatDoor Go.ChangeShapes Go.WideShapes Go.ChangeAt Go.RowKit Go.Maps N
set_option maxHeartbeats 16000000
set_option maxRecDepth 100000

theorem ex_eqnil {o : Oper} {a : Act} {w : World} (x y : Operand) (p : Addr) (T' : TypeId) (ho : o.op = .binOp .eql 25 x y T') (hx : a.eval x = .pointer (some p)) (hy : a.eval y = .pointer none) : (execOp a.eval o).run Tryz.prog w = .ok (.value (.bool false)) w := by
  have h : (Op.equal 25 (.pointer (some p)) (.pointer none)).run Tryz.prog w = .ok false w := by kernel_rfl
  unfold execOp
  simp only [ho, hx, hy]
  simp [eqGuard, binOp, go_sem, h]
/-- Two rows of tuples, one behind the other. -/
structure Tw (w u : World) (g : Nat) (a b : Array Value) : Prop where
  r0 : u.heap[g]? = some (.cells a 34 (0, 0))
  r1 : u.heap[g + 1]? = some (.cells b 34 (0, 0))
  bel : Below w.heap.size w u
  ge : w.heap.size ≤ g
section
variable {w u u' : World} {g : Nat} {a b : Array Value}
theorem Tw.below (h : Tw w u g a b) (hb : Below u.heap.size u u') : Tw w u' g a b :=
  ⟨below_keeps hb h.r0 (Array.getElem?_eq_some_iff.1 h.r0).1, below_keeps hb h.r1 (Array.getElem?_eq_some_iff.1 h.r1).1, h.bel.trans (hb.mono h.bel.size), h.ge⟩
theorem Tw.set0 (h : Tw w u g a b) (j : Nat) (v : Value) {a' : Array Value} (e : a.setIfInBounds j v = a') : Tw w (u.setCell ⟨g, j, none⟩ v) g a' b := by
  have hb : But g u (u.setCell ⟨g, j, none⟩ v) := But.set _ _ _ _
  exact ⟨e ▸ heap_setCell_row h.r0 v, (hb.block _ (Array.getElem?_eq_some_iff.1 h.r1).1 (by omega)).trans h.r1, hb.below h.bel h.bel.size h.ge, h.ge⟩
theorem Tw.set1 (h : Tw w u g a b) (j : Nat) (v : Value) {b' : Array Value} (e : b.setIfInBounds j v = b') : Tw w (u.setCell ⟨g + 1, j, none⟩ v) g a b' := by
  have hb : But (g + 1) u (u.setCell ⟨g + 1, j, none⟩ v) := But.set _ _ _ _
  exact ⟨(hb.block _ (Array.getElem?_eq_some_iff.1 h.r0).1 (by omega)).trans h.r0, e ▸ heap_setCell_row h.r1 v, hb.below h.bel h.bel.size (by have := h.ge; omega), h.ge⟩
theorem Tw.c0 (h : Tw w u g a b) {j : Nat} {v : Value} (e : a[j]? = some v) : u.cell? ⟨g, j, none⟩ = some v ∧ u.frozen? ⟨g, j, none⟩ = false := ⟨(cell_of_row _ _ _ _ _ _ h.r0).trans e, frozen_of_row _ _ _ _ _ h.r0⟩
theorem Tw.c1 (h : Tw w u g a b) {j : Nat} {v : Value} (e : b[j]? = some v) : u.cell? ⟨g + 1, j, none⟩ = some v ∧ u.frozen? ⟨g + 1, j, none⟩ = false := ⟨(cell_of_row _ _ _ _ _ _ h.r1).trans e, frozen_of_row _ _ _ _ _ h.r1⟩
end
theorem SeesB.kp {S : Nat → Prop} {w w' : World} {v : Value} {L : List Nat} (h : SeesB w v L) (hk : Me.Keeps S w w') (hn : ∀ a n c, v = .slice (some a) n c → ¬ S a.block) : SeesB w' v L := by
  obtain ⟨ao, cap, hv, h1, h2, h3⟩ := h
  refine ⟨ao, cap, hv, h1, h2, fun j hj => ?_⟩
  obtain ⟨g, off, ha, hg, c0, c1⟩ := h3 j hj
  refine ⟨g, off, ha, Nat.lt_of_lt_of_le hg hk.size, ?_, c1⟩
  have hb := hk.block g hg (hn ⟨g, off, none⟩ _ _ (by rw [hv, ha]))
  unfold World.cell? at c0 ⊢
  rw [← c0]
  simp only at hb ⊢
  simp only [hb]

theorem fault_facts {t : Tu} (ht : t.Ok) (hp : t.p = 6 ∨ t.p = 1 ∨ t.p = 17) (h1 : t.p = 1 → t.dp = t.sp) {k c : Nat} {a : Int} {f : Nat} (hk : k < 256) (hc : c < 256) (hf : f < 4294967296) (he : fltE (mdH t) (mdB t 1) k c a f = 0) :
    (fltP (mdH t) (mdB t 1) k c a f).1.Ok ∧ (fltP (mdH t) (mdB t 1) k c a f).1.opts = [] ∧ (fltP (mdH t) (mdB t 1) k c a f).2.length ≤ 65535 ∧ quoT (fltP (mdH t) (mdB t 1) k c a f).1 (fltP (mdH t) (mdB t 1) k c a f).2 = some t ∧ rdC (fltP (mdH t) (mdB t 1) k c a f).1 (fltP (mdH t) (mdB t 1) k c a f).2 = none := by
  obtain ⟨q1, q2⟩ := quoT_made ht hp h1 hk hc he
  have hbs := built_bytes (h := mdH t) (B := mdB t 1) (mdH_ok ht) (fun x hx => by cases hx) (mdB_lt ht (by omega))
  obtain ⟨-, a2, -⟩ := about_facts (mdH t) (mdB t 1) k c a f (mdH_ok ht) hk hc hbs he
  have e : fltP (mdH t) (mdB t 1) k c a f = (N.mdH 0 f t.s, Im.laid (fltM (mdH t) (mdB t 1) k c a)) := by unfold fltP; rw [if_pos he]; rfl
  rw [e]
  have := (refE_ok a2).2.2
  exact ⟨⟨by show 0 < 256; omega, by show 0 < 65536; omega, ⟨by show (-9223372036854775808 : Int) ≤ 0; omega, by show (0 : Int) ≤ 9223372036854775807; omega⟩, by show 64 < 256; omega, by show 1 < 256; omega, hf, ht.s⟩, rfl, by show (Im.laid _).length ≤ 65535; omega, q1, q2⟩
theorem len_sl (t : TypeId) (a : Option Addr) (n c : Nat) (u : World) : (Builtin.len_ #[29] t #[.slice a n c]).run Tryz.prog u = .ok (.int .i64 (n : Int)) u := by
  simp [go_sem]
theorem idx0 (g c : Nat) (u : World) : (Instr.indexAt 29 (.slice (some ⟨g, 0, none⟩) 1 c) (.int .i64 0)).run Tryz.prog u = .ok (.pointer (some ⟨g, 0, none⟩)) u := by
  have := idxFl (n := 1) (cap := c) (g := g) (j := 0) (by omega) u
  simpa using this

theorem flowAbout_any (w : World) (x back : Tu) (fo : Bool) (ty co : Nat) (ar : Int) (fr : Nat) (ht : TabF w) (htK : TabK w) (htC : Ad.TabC w) (hx : x.Ok) (hb : back.Ok) (hty : ty < 256) (hco : co < 256) (hfr : fr < 4294967296) :
    Calls Tryz.prog 6 #[.agg x.cells, .agg back.cells, .bool fo, .int .u8 (ty : Int), .int .u8 (co : Int), .int .i64 ar, .int .u32 (fr : Int)] w fun e w' => e = .returned (.bool true) ∧ Below w.heap.size w w' := by
  obtain ⟨wa, HWA⟩ : ∃ wa, Hid (wa = w.alloc (.cells x.cells 34)) := ⟨_, rfl⟩
  obtain ⟨w0, HW0⟩ : ∃ w0, Hid (w0 = wa.alloc (.cells back.cells 34)) := ⟨_, rfl⟩
  obtain ⟨g, HG⟩ : ∃ g, Hid (g = w.heap.size) := ⟨_, rfl⟩
  have HT0 : Hid (Tw w w0 g x.cells back.cells) := by
    have sa : wa.heap.size = g + 1 := by rw [HWA.out, HG.out]; simp
    have ba : Below w.heap.size w wa := by rw [HWA.out]; exact (Below.refl _ _).alloc (Nat.le_refl _) _
    have bb : Below wa.heap.size wa w0 := by rw [HW0.out]; exact (Below.refl _ _).alloc (Nat.le_refl _) _
    have ra : wa.heap[g]? = some (.cells x.cells 34 (0, 0)) := by rw [HWA.out, HG.out]; exact heap_alloc_new w _
    have rb : w0.heap[g + 1]? = some (.cells back.cells 34 (0, 0)) := by
      have := heap_alloc_new wa (.cells back.cells 34); rw [sa] at this; rw [HW0.out]; exact this
    exact ⟨below_keeps bb ra (by omega), rb, ba.trans (bb.mono ba.size), by rw [HG.out]; exact Nat.le_refl _⟩
  have HALLOC : Hid ((w.alloc (.cells x.cells 34)).alloc (.cells back.cells 34) = w0) := by unfold Hid; rw [HW0.out, HWA.out]
  have HBG := hid (begun_any w0 (ht.below HT0.out.bel))
  have HTL := hid (tab_lt ht)
  have HTF := hid ht
  have HTK := hid htK
  have HTC := hid htC
  obtain ⟨p, HP⟩ : ∃ p, Hid (p = prA x) := ⟨_, rfl⟩
  obtain ⟨xx, HXX⟩ : ∃ t, Hid (t = xA x) := ⟨_, rfl⟩
  obtain ⟨bb, HBB⟩ : ∃ t, Hid (t = bA x back) := ⟨_, rfl⟩
  have HPR : Hid (xx.Ok ∧ bb.Ok ∧ (xx.p = 6 ∨ xx.p = 1 ∨ xx.p = 17) ∧ bb.p = xx.p ∧ (xx.p = 1 → xx.dp = xx.sp) ∧ (bb.p = 1 → bb.dp = bb.sp) ∧ xx.p = p) := by
    unfold Hid; rw [HXX.out, HBB.out, HP.out]
    refine ⟨xA_ok hx, bA_ok hb, prA_is x, rfl, fun e => ?_, fun e => ?_, rfl⟩
    · show (if prA x = 1 then x.sp else x.dp) = x.sp
      exact if_pos e
    · show (if prA x = 1 then back.sp else back.dp) = back.sp
      exact if_pos e
  obtain ⟨xp, HXP⟩ : ∃ p, Hid (p = x.p) := ⟨_, rfl⟩
  obtain ⟨bp, HBP⟩ : ∃ p, Hid (p = back.p) := ⟨_, rfl⟩
  obtain ⟨xs, HXS⟩ : ∃ p, Hid (p = x.sp) := ⟨_, rfl⟩
  obtain ⟨bs, HBS⟩ : ∃ p, Hid (p = back.sp) := ⟨_, rfl⟩
  obtain ⟨xd, HXD⟩ : ∃ p, Hid (p = x.dp) := ⟨_, rfl⟩
  obtain ⟨bd, HBD⟩ : ∃ p, Hid (p = back.dp) := ⟨_, rfl⟩
  obtain ⟨x0, HX0⟩ : ∃ a, Hid (a = x.cells) := ⟨_, rfl⟩
  obtain ⟨b0, HB0⟩ : ∃ a, Hid (a = back.cells) := ⟨_, rfl⟩
  obtain ⟨x1, HX1⟩ : ∃ a, Hid (a = (⟨x.s, x.d, prA x, x.sp, x.dp⟩ : Tu).cells) := ⟨_, rfl⟩
  obtain ⟨b1, HB1⟩ : ∃ a, Hid (a = (⟨back.s, back.d, prA x, back.sp, back.dp⟩ : Tu).cells) := ⟨_, rfl⟩
  have HE : Hid ((xp ≠ 1 ∧ xp ≠ 6 → x0.setIfInBounds 2 (.int .u8 17) = x1) ∧ (¬ (xp ≠ 1 ∧ xp ≠ 6) → x0 = x1) ∧ b0.setIfInBounds 2 (.int .u8 (p : Int)) = b1 ∧
      (p = 1 → x1.setIfInBounds 4 (.int .u16 (xs : Int)) = xx.cells ∧ b1.setIfInBounds 4 (.int .u16 (bs : Int)) = bb.cells) ∧ (p ≠ 1 → x1 = xx.cells ∧ b1 = bb.cells)) := by
    unfold Hid
    rw [HX0.out, HX1.out, HB0.out, HB1.out, HXP.out, HP.out, HXX.out, HBB.out, HXS.out, HBS.out]
    refine ⟨fun h => ?_, fun h => ?_, rfl, fun h => ?_, fun h => ?_⟩
    · have : prA x = 17 := if_pos h
      rw [this]; rfl
    · have : prA x = x.p := if_neg h
      rw [this]
    · have e1 : xA x = ⟨x.s, x.d, prA x, x.sp, x.sp⟩ := by unfold xA; rw [if_pos h]
      have e2 : bA x back = ⟨back.s, back.d, prA x, back.sp, back.sp⟩ := by unfold bA; rw [if_pos h]
      rw [e1, e2]; exact ⟨rfl, rfl⟩
    · have e1 : xA x = ⟨x.s, x.d, prA x, x.sp, x.dp⟩ := by unfold xA; rw [if_neg h]
      have e2 : bA x back = ⟨back.s, back.d, prA x, back.sp, back.dp⟩ := by unfold bA; rw [if_neg h]
      rw [e1, e2]; exact ⟨rfl, rfl⟩
  have HC : Hid (x0[2]? = some (.int .u8 (xp : Int)) ∧ b0[2]? = some (.int .u8 (bp : Int)) ∧ x1[2]? = some (.int .u8 (p : Int)) ∧ x1[3]? = some (.int .u16 (xs : Int)) ∧ x1[4]? = some (.int .u16 (xd : Int)) ∧ b1[3]? = some (.int .u16 (bs : Int)) ∧ b1[4]? = some (.int .u16 (bd : Int))) := by
    unfold Hid
    rw [HX0.out, HX1.out, HB0.out, HB1.out, HXP.out, HP.out, HXS.out, HBS.out, HXD.out, HBD.out, HBP.out]
    exact ⟨rfl, rfl, rfl, rfl, rfl, rfl, rfl⟩
  rw [← HX0.out, ← HB0.out] at HT0 HALLOC ⊢
  clear ht htK htC hx hb HWA HW0 HX0 HB0 HX1 HB1 HXX HBB HXP HP HXS HBS HXD HBD HBP
  go_enter Tryz.func6, Tryz.ntmps6
  go_upto_region 1 with fail
  rw [HALLOC.out, ← HG.out]
  go_wp2_with fail
  refine HBG.out.mono ?_
  rintro _ w1 ⟨rfl, hb1⟩
  have HT1 := hid (HT0.out.below hb1)
  obtain ⟨k2, f2⟩ := HT1.out.c0 HC.out.1
  clear hb1 HBG HT0 HALLOC
  go_upto_region 4 with fail
  go_cut [34] from 25 (fun c wx => c = .bool (decide (xp ≠ 1 ∧ xp ≠ 6)) ∧ wx = w1)
  case first =>
    by_cases h1 : xp = 1
    · have q1 : ((xp : Int) != 1) = false := by simp; omega
      go_wp2_with fail
      go_meet
      exact ⟨by simp [h1], rfl⟩
    · have q1 : ((xp : Int) != 1) = true := by simp; omega
      by_cases h6 : xp = 6
      · have q6 : ((xp : Int) != 6) = false := by simp; omega
        go_wp2_with fail
        go_meet
        exact ⟨by simp [h6], rfl⟩
      · have q6 : ((xp : Int) != 6) = true := by simp; omega
        go_wp2_with fail
        go_meet
        exact ⟨by simp [h1, h6], rfl⟩
  case rest =>
  obtain ⟨rfl, hww⟩ := hcut
  obtain rfl : w1 = wc := hww.symm
  go_upto_if 34 with fail
  go_cut [] from 25 (fun wx => Hid (Tw w wx g x1 b0))
  case first =>
    by_cases h : xp ≠ 1 ∧ xp ≠ 6
    · have hd : decide (xp ≠ 1 ∧ xp ≠ 6) = true := decide_eq_true h
      have HQ := hid (HT1.out.set0 2 (.int .u8 17) (HE.out.1 h))
      rw [hd]
      clear hd h
      go_wp2_with fail
      go_meet
      exact HQ
    · have hd : decide (xp ≠ 1 ∧ xp ≠ 6) = false := decide_eq_false h
      have HQ : Hid (Tw w w1 g x1 b0) := by unfold Hid; rw [← HE.out.2.1 h]; exact HT1.out
      rw [hd]
      clear hd h
      go_wp2_with fail
      go_meet
      exact HQ
  case rest =>
  have HT2 := hcut
  clear k2 f2 HT1 hcut
  obtain ⟨k2, f2⟩ := HT2.out.c0 HC.out.2.2.1
  obtain ⟨kb, fb⟩ := HT2.out.c1 HC.out.2.1
  have HQ3 := hid (HT2.out.set1 2 (.int .u8 (p : Int)) HE.out.2.2.1)
  go_upto_region 7 with fail
  generalize wc.setCell ⟨g + 1, 2, none⟩ (.int .u8 (p : Int)) = w3 at HQ3 ⊢
  clear k2 f2 kb fb HT2
  obtain ⟨k2, f2⟩ := HQ3.out.c0 HC.out.2.2.1
  go_cut [41] from 25 (fun c wx => c = .bool (decide (p = 1)) ∧ wx = w3)
  case first =>
    by_cases h1 : p = 1
    · have q1 : ((p : Int) == 1) = true := by simp; omega
      go_wp2_with fail
      go_meet
      exact ⟨by simp [h1], rfl⟩
    · have q1 : ((p : Int) == 1) = false := by simp; omega
      go_wp2_with fail
      go_meet
      exact ⟨by simp [h1], rfl⟩
  case rest =>
  obtain ⟨rfl, hww⟩ := hcut
  obtain rfl : w3 = wc := hww.symm
  clear k2 f2
  go_upto_if 41 with fail
  go_cut [] from 25 (fun wx => Hid (Tw w wx g xx.cells bb.cells))
  case first =>
    by_cases h : p = 1
    · have hd : decide (p = 1) = true := decide_eq_true h
      obtain ⟨k3, -⟩ := HQ3.out.c0 HC.out.2.2.2.1
      obtain ⟨k4, f4⟩ := HQ3.out.c0 HC.out.2.2.2.2.1
      have HQ4 := hid (HQ3.out.set0 4 (.int .u16 (xs : Int)) (HE.out.2.2.2.1 h).1)
      rw [hd]
      go_upto_region 9 with fail
      generalize w3.setCell ⟨g, 4, none⟩ (.int .u16 (xs : Int)) = w4 at HQ4 ⊢
      clear k3 k4 f4
      obtain ⟨k3, -⟩ := HQ4.out.c1 HC.out.2.2.2.2.2.1
      obtain ⟨k4, f4⟩ := HQ4.out.c1 HC.out.2.2.2.2.2.2
      have HQ5 := hid (HQ4.out.set1 4 (.int .u16 (bs : Int)) (HE.out.2.2.2.1 h).2)
      clear hd h
      go_wp2_with fail
      go_meet
      exact HQ5
    · have hd : decide (p = 1) = false := decide_eq_false h
      have HQ4 : Hid (Tw w w3 g xx.cells bb.cells) := by
        obtain ⟨e1, e2⟩ := HE.out.2.2.2.2 h
        unfold Hid; rw [← e1, ← e2]; exact HQ3.out
      rw [hd]
      clear hd h
      go_wp2_with fail
      go_meet
      exact HQ4
  case rest =>
  have HT5 := hcut
  clear HQ3 hcut HE HC
  obtain ⟨w5, hw5⟩ : ∃ u, u = wc := ⟨_, rfl⟩
  rw [← hw5] at HT5 ⊢
  clear hw5
  have HL7 := hid (load_tu HT5.out.r0)
  have HL8 := hid (load_tu HT5.out.r1)
  rcases Decidable.em (bb = xx) with he | he
  · have qe := hid (show decide (bb = xx) = true by simp [he])
    clear he
    go_wp2_with (first | (refine wpList_ld 34 ⟨g + 1, 0, none⟩ (.tmp 8) rfl rfl HL8.out rfl ?_) | (refine wpList_ld 34 ⟨g, 0, none⟩ (.tmp 7) rfl rfl HL7.out rfl ?_) | (refine wpList_val (ex_eqTb (.tmp 48) (.tmp 49) _ bb xx true rfl rfl rfl qe.out) rfl ?_) | fail)
    go_ret
    exact ⟨rfl, HT5.out.bel⟩
  have qe := hid (show decide (bb = xx) = false by simp [he])
  have HNB := hid he
  have HN := hid (new_good 3 w5 (by omega) (by omega) (HTF.out.below HT5.out.bel))
  clear he
  go_upto_region 12 with (first | (refine wpList_ld 34 ⟨g + 1, 0, none⟩ (.tmp 8) rfl rfl HL8.out rfl ?_) | (refine wpList_ld 34 ⟨g, 0, none⟩ (.tmp 7) rfl rfl HL7.out rfl ?_) | (refine wpList_val (ex_eqTb (.tmp 48) (.tmp 49) _ bb xx false rfl rfl rfl qe.out) rfl ?_) | fail)
  go_wp2_with fail
  refine HN.out.mono ?_
  rintro _ w6 ⟨b, F, rfl, hs, hF, hb6⟩
  have HT6 := hid (HT5.out.below hb6)
  have HST := hid hs
  have HF6 : Hid ((∀ k, F k → w.heap.size ≤ k) ∧ ¬ F g ∧ ¬ F (g + 1)) :=
    ⟨fun k e => Nat.le_trans HT5.out.bel.size (hF k e), fun e => by have := hF _ e; have := (Array.getElem?_eq_some_iff.1 HT5.out.r0).1; omega, fun e => by have := hF _ e; have := (Array.getElem?_eq_some_iff.1 HT5.out.r1).1; omega⟩
  obtain ⟨k2, -⟩ := HT6.out.c0 (j := 2) (v := .int .u8 (xx.p : Int)) rfl
  obtain ⟨xq, HXQ⟩ : ∃ q, Hid (q = xx.p) := ⟨_, rfl⟩
  rw [← HXQ.out] at k2
  obtain ⟨fl, HFL⟩ : ∃ q, Hid (q = flA xx) := ⟨_, rfl⟩
  clear hs hF hb6 HT5 HL7 HL8 HN qe
  go_upto_region 14 with fail
  go_cut [57] from 25 (fun c wx => c = .bool (decide (xq = 6)) ∧ wx = w6)
  case first =>
    by_cases h1 : xq = 6
    · have q1 : ((xq : Int) == 6) = true := by simp; omega
      go_wp2_with fail
      go_meet
      exact ⟨by simp [h1], rfl⟩
    · have q1 : ((xq : Int) == 6) = false := by simp; omega
      go_wp2_with fail
      go_meet
      exact ⟨by simp [h1], rfl⟩
  case rest =>
  obtain ⟨rfl, hww⟩ := hcut
  obtain rfl : w6 = wc := hww.symm
  clear k2
  go_upto_if 57 with fail
  go_cut [18] from 25 (fun v wx => v = .int .u8 (fl : Int) ∧ wx = w6)
  case first =>
    by_cases h : xq = 6
    · have hd : decide (xq = 6) = true := decide_eq_true h
      have hf : fl = 2 := by rw [HFL.out]; unfold flA; rw [if_pos (by rw [← HXQ.out]; exact h)]
      rw [hd]
      clear hd h
      go_wp2_with fail
      go_meet
      exact ⟨by rw [hf]; rfl, rfl⟩
    · have hd : decide (xq = 6) = false := decide_eq_false h
      have hf : fl = 0 := by rw [HFL.out]; unfold flA; rw [if_neg (by rw [← HXQ.out]; exact h)]
      rw [hd]
      clear hd h
      go_wp2_with fail
      go_meet
      exact ⟨by rw [hf]; rfl, rfl⟩
  case rest =>
  obtain ⟨rfl, hww⟩ := hcut
  obtain rfl : w6 = wc := hww.symm
  have hfl : fl < 256 := by rw [HFL.out]; unfold flA; split <;> omega
  have HLD : Hid (∀ u : World, Below w6.heap.size w6 u → (Instr.loadAt 34 (.pointer (some ⟨g, 0, none⟩))).run Tryz.prog u = .ok (.agg xx.cells) u ∧ (Instr.loadAt 34 (.pointer (some ⟨g + 1, 0, none⟩))).run Tryz.prog u = .ok (.agg bb.cells) u) := fun u hu =>
    ⟨load_tu (HT6.out.below hu).r0, load_tu (HT6.out.below hu).r1⟩
  have HMK := hid (fun u => made_sees xx fl u HPR.out.1 hfl)
  obtain ⟨q1, HQ1⟩ : ∃ q, Hid (q = opnR 3 q0 xx bb (mdH xx) (mdB xx fl) 5) := ⟨_, rfl⟩
  obtain ⟨e0, f, hth, hbk, htil, hI, hlast⟩ := about_flow HPR.out.1 HPR.out.2.1 HPR.out.2.2.1 HPR.out.2.2.2.1 HNB.out HPR.out.2.2.2.2.1
  rw [← HFL.out] at e0 hI hlast
  rw [← HQ1.out] at hI hlast
  have HI := hid hI
  have HFF : Hid (f.th = xx ∧ f.bk = bb ∧ f.til ≤ 1000 ∧ q1.last = 1) := ⟨hth, hbk, htil, hlast⟩
  have HOP : Hid (∀ u ao n cap, Below w6.heap.size w6 u → SeesB u (.slice ao n cap) (mdB xx fl) →
      Calls Tryz.prog 10 #[.pointer (some ⟨b, 0, none⟩), .agg xx.cells, .agg bb.cells, .agg (pkCells (mdH xx) (.slice none 0 0) (.slice ao n cap)), .int .i64 5] u fun e w' => e = .returned (.int .i64 0) ∧ ∃ F', St w' b 3 q1 F' ∧ (∀ k, F' k → w.heap.size ≤ k) ∧ Tw w w' g xx.cells bb.cells) := fun u ao n cap hu hsm => by
    have := open_any u b 3 q0 F xx bb (mdH xx) (.slice none 0 0) (.slice ao n cap) (mdB xx fl) 5 (HST.out.below hu) HPR.out.1 HPR.out.2.1 (mdH_ok HPR.out.1) (sees_nil _) hsm (by show 0 ≤ _; omega) (by rw [mdB_len]; split <;> omega) ⟨by omega, by omega⟩ (by simp [q0]) (by simp [q0]) (by simp [q0]) (by simp [q0])
    rw [e0, ← HQ1.out] at this
    refine this.mono ?_
    rintro e w' ⟨he, F', k1, k2, k3⟩
    have T := HT6.out.below hu
    exact ⟨he, F', k1, fun k e => (k2 k e).elim (HF6.out.1 k) (fun e => Nat.le_trans T.bel.size e), ⟨(k3.block _ (Array.getElem?_eq_some_iff.1 T.r0).1 HF6.out.2.1).trans T.r0, (k3.block _ (Array.getElem?_eq_some_iff.1 T.r1).1 HF6.out.2.2).trans T.r1, kp_below k3 T.bel HF6.out.1 (Nat.le_refl _), T.ge⟩⟩
  clear e0 hth hbk htil hI hlast hfl
  go_upto_region 16 with fail
  refine wp_region_guarded' 13 (fun i => ([58, 59, 60, 61, 62, 63, 64, 65, 66, 67, 68, 69, 70] : List Tmp).getD i 0) (FM [.pointer (some ⟨b, 0, none⟩), .bool false, .bool false, .int .i64 0, .bool false, .bool false, .bool false, .pointer (some ⟨b, 0, none⟩), .agg xx.cells, .agg bb.cells, .agg xx.cells, .int .u8 (fl : Int), undef] 12 (mdH xx) (mdB xx fl)) (fun u => Below w6.heap.size w6 u) (fun _ u u' => Below u.heap.size u u') (by kernel_rfl) (by kernel_rfl) ⟨rfl, rfl, rfl, Nat.le_refl _, fun _ _ => rfl⟩ (fun _ _ _ _ _ _ h _ hr => h.keeps hr) ?_ ?_
  · simp only [List.take_succ_cons, List.take_zero, stepsG]
    refine ⟨?_, ?_, ?_, ?_, ?_, ?_, ?_, ?_, ?_, ?_, ?_, ?_, ?_, trivial⟩
    · intro a u vs hI hold hdep
      exact opAt_plain rfl (fm_still (ex_move (.tmp 16) _ rfl (hold 16 (dlM (L := [58, 59, 60, 61, 62, 63, 64, 65, 66, 67, 68, 69, 70]) (by decide)))) (by decide) rfl rfl hI)
    · intro a u vs hI hold hdep
      exact opAt_plain rfl (fm_still (ex_eqnil (.tmp 58) (.const (.pointer none)) ⟨b, 0, none⟩ _ rfl (FM.dep (hdep ⟨0, .data⟩ (by simp) rfl (by decide)) (by decide) rfl) rfl) (by decide) rfl rfl hI)
    · intro a u vs hI hold hdep
      exact opAt_plain rfl (fm_still (ex_move (.tmp 59) _ rfl (FM.dep (hdep ⟨1, .data⟩ (by simp) rfl (by decide)) (by decide) rfl)) (by decide) rfl rfl hI)
    · intro a u vs hI hold hdep
      exact opAt_go (j := 2) (t := 60) (b := false) rfl rfl (FM.dep (hdep ⟨2, .guard⟩ (by simp) rfl (by decide)) (by decide) rfl) (fm_still (ex_move (.tmp 17) _ rfl (hold 17 (dlM (L := [58, 59, 60, 61, 62, 63, 64, 65, 66, 67, 68, 69, 70]) (by decide)))) (by decide) rfl rfl hI)
    · intro a u vs hI hold hdep
      exact opAt_go (j := 2) (t := 60) (b := false) rfl rfl (FM.dep (hdep ⟨2, .guard⟩ (by simp) rfl (by decide)) (by decide) rfl) (fm_still (ex_neE (.tmp 61) 0 false _ rfl (FM.dep (hdep ⟨3, .data⟩ (by simp) rfl (by decide)) (by decide) rfl) rfl) (by decide) rfl rfl hI)
    · intro a u vs hI hold hdep
      exact opAt_plain rfl (fm_still (ex_pick (.tmp 60) (.const (.bool true)) (.tmp 62) false (.bool false) rfl (FM.dep (hdep ⟨2, .data⟩ (by simp) rfl (by decide)) (by decide) rfl) (FM.dep (hdep ⟨4, .data⟩ (by simp) rfl (by decide)) (by decide) rfl)) (by decide) rfl rfl hI)
    · intro a u vs hI hold hdep
      exact opAt_plain rfl (fm_still (ex_move (.tmp 63) _ rfl (FM.dep (hdep ⟨5, .data⟩ (by simp) rfl (by decide)) (by decide) rfl)) (by decide) rfl rfl hI)
    · intro a u vs hI hold hdep
      exact opAt_go (j := 6) (t := 64) (b := false) rfl rfl (FM.dep (hdep ⟨6, .guard⟩ (by simp) rfl (by decide)) (by decide) rfl) (fm_still (ex_move (.tmp 16) _ rfl (hold 16 (dlM (L := [58, 59, 60, 61, 62, 63, 64, 65, 66, 67, 68, 69, 70]) (by decide)))) (by decide) rfl rfl hI)
    · intro a u vs hI hold hdep
      exact opAt_go (j := 6) (t := 64) (b := false) rfl rfl (FM.dep (hdep ⟨6, .guard⟩ (by simp) rfl (by decide)) (by decide) rfl) (fm_still (ex_load _ ⟨g, 0, none⟩ (.tmp 7) _ rfl (hold 7 (dlM (L := [58, 59, 60, 61, 62, 63, 64, 65, 66, 67, 68, 69, 70]) (by decide))) ((HLD.out u hI).1)) (by decide) rfl rfl hI)
    · intro a u vs hI hold hdep
      exact opAt_go (j := 6) (t := 64) (b := false) rfl rfl (FM.dep (hdep ⟨6, .guard⟩ (by simp) rfl (by decide)) (by decide) rfl) (fm_still (ex_load _ ⟨g + 1, 0, none⟩ (.tmp 8) _ rfl (hold 8 (dlM (L := [58, 59, 60, 61, 62, 63, 64, 65, 66, 67, 68, 69, 70]) (by decide))) ((HLD.out u hI).2)) (by decide) rfl rfl hI)
    · intro a u vs hI hold hdep
      exact opAt_go (j := 6) (t := 64) (b := false) rfl rfl (FM.dep (hdep ⟨6, .guard⟩ (by simp) rfl (by decide)) (by decide) rfl) (fm_still (ex_load _ ⟨g, 0, none⟩ (.tmp 7) _ rfl (hold 7 (dlM (L := [58, 59, 60, 61, 62, 63, 64, 65, 66, 67, 68, 69, 70]) (by decide))) ((HLD.out u hI).1)) (by decide) rfl rfl hI)
    · intro a u vs hI hold hdep
      exact opAt_go (j := 6) (t := 64) (b := false) rfl rfl (FM.dep (hdep ⟨6, .guard⟩ (by simp) rfl (by decide)) (by decide) rfl) (fm_still (ex_move (.tmp 18) _ rfl (hold 18 (dlM (L := [58, 59, 60, 61, 62, 63, 64, 65, 66, 67, 68, 69, 70]) (by decide)))) (by decide) rfl rfl hI)
    · intro a u vs hI hold hdep
      have e0 : a.eval (.tmp 68) = .agg xx.cells := (FM.dep (hdep ⟨10, .data⟩ (by simp) rfl (by decide)) (by decide) rfl)
      have e1 : a.eval (.tmp 69) = .int .u8 (fl : Int) := (FM.dep (hdep ⟨11, .data⟩ (by simp) rfl (by decide)) (by decide) rfl)
      refine opAt_go (j := 6) (t := 64) (b := false) rfl rfl (FM.dep (hdep ⟨6, .guard⟩ (by simp) rfl (by decide)) (by decide) rfl) ?_
      refine wp_call 12 _ _ rfl (enters_of Tryz.func12 (by kernel_rfl) rfl) #[.agg xx.cells, .int .u8 (fl : Int)] (by simp only [List.map_toArray, List.map_cons, List.map_nil, e0, e1]) ?_
      refine (HMK.out u).mono ?_
      rintro _ u' ⟨ao, n, cap, rfl, hs', hb'⟩
      exact ⟨_, rfl, _, rfl, fm_made rfl hs', hI.trans (hb'.mono hI.size), hb'⟩
  intro vs u hI hF
  have e0 : vs 0 = .pointer (some ⟨b, 0, none⟩) := (hF 0 (by decide)).is (by decide) rfl
  have e1 : vs 1 = .bool false := (hF 1 (by decide)).is (by decide) rfl
  have e2 : vs 2 = .bool false := (hF 2 (by decide)).is (by decide) rfl
  have e3 : vs 3 = .int .i64 0 := (hF 3 (by decide)).is (by decide) rfl
  have e4 : vs 4 = .bool false := (hF 4 (by decide)).is (by decide) rfl
  have e5 : vs 5 = .bool false := (hF 5 (by decide)).is (by decide) rfl
  have e6 : vs 6 = .bool false := (hF 6 (by decide)).is (by decide) rfl
  have e7 : vs 7 = .pointer (some ⟨b, 0, none⟩) := (hF 7 (by decide)).is (by decide) rfl
  have e8 : vs 8 = .agg xx.cells := (hF 8 (by decide)).is (by decide) rfl
  have e9 : vs 9 = .agg bb.cells := (hF 9 (by decide)).is (by decide) rfl
  have e10 : vs 10 = .agg xx.cells := (hF 10 (by decide)).is (by decide) rfl
  have e11 : vs 11 = .int .u8 (fl : Int) := (hF 11 (by decide)).is (by decide) rfl
  have hM := (hF 12 (by decide)).made rfl
  clear hF
  simp only [List.drop_succ_cons, List.drop_zero, puts, List.range, List.range.loop, List.foldr, if_true, List.getD_cons_zero, List.getD_cons_succ, e0, e1, e2, e3, e4, e5, e6, e7, e8, e9, e10, e11, Act.put, List.setIfInBounds_toArray, List.set_cons_zero, List.set_cons_succ]
  clear e0 e1 e2 e3 e4 e5 e6 e7 e8 e9 e10 e11
  have HC5 : Hid (Calls Tryz.prog 10 #[.pointer (some ⟨b, 0, none⟩), .agg xx.cells, .agg bb.cells, vs 12, .int .i64 5] u fun e w' => e = .returned (.int .i64 0) ∧ ∃ F', St w' b 3 q1 F' ∧ (∀ k, F' k → w.heap.size ≤ k) ∧ Tw w w' g xx.cells bb.cells) := by
    obtain ⟨ao, n, cap, e11, hsM⟩ := hM
    unfold Hid
    rw [e11]
    exact HOP.out u ao n cap hI hsM
  clear HLD HOP HMK hI hM HT6 HST HF6 HQ1 HFL HXQ
  go_wp2_with fail
  refine HC5.out.mono ?_
  rintro _ w8 ⟨rfl, F8, hs8, hF8, hT8⟩
  have HS8 := hid hs8
  have HF8 := hid hF8
  have HT8 := hid hT8
  clear hs8 hT8 hF8 HC5
  have HL8 := hid (load_tu HT8.out.r1)
  have HBK := hid (back_any bb w8)
  obtain ⟨qb, HQB⟩ : ∃ t, Hid (t = bb.back) := ⟨_, rfl⟩
  rw [← HQB.out] at HBK
  obtain ⟨qa, HQA⟩ : ∃ t, Hid (t = if fo = true then bb.back else xx.back) := ⟨_, rfl⟩
  go_wp2_with (first | (refine wpList_ld 34 ⟨g + 1, 0, none⟩ (.tmp 8) rfl rfl HL8.out rfl ?_) | fail)
  refine HBK.out.mono ?_
  rintro _ w9 ⟨rfl, hb9⟩
  have HB9 := hid hb9
  clear hb9 HL8 HBK
  have HN9 : Hid ((w9.alloc (.cells #[.int .u32 0, .int .u32 0, .int .u8 0, .int .u16 0, .int .u16 0] 34)).heap[w9.heap.size]? = some (.cells zTu.cells 34 (0, 0))) := heap_alloc_new _ _
  go_upto_region 19 with (first | (refine wpList_st rfl 34 (.tmp 19) (.tmp 75) rfl w9.heap.size qb.cells rfl rfl _ zTu.cells HN9.out (by kernel_rfl) rfl qb.one ?_; intro w10 hw hbut) | fail)
  obtain ⟨gq, HGQ⟩ : ∃ g, Hid (g = w9.heap.size) := ⟨_, rfl⟩
  rw [← HGQ.out] at hw hbut ⊢
  have hba : Below w8.heap.size w8 (w9.alloc (.cells #[.int .u32 0, .int .u32 0, .int .u8 0, .int .u16 0, .int .u16 0] 34)) := HB9.out.trans ((Below.refl _ _).alloc HB9.out.size _)
  have hgq : w8.heap.size ≤ gq := by rw [HGQ.out]; exact HB9.out.size
  have HB10 := hid (hbut.below hba hba.size hgq)
  have HG8 := hid hgq
  have HR10 := hid hw
  clear hw hbut hba hgq HN9 HB9 HGQ
  go_upto_if 77 with fail
  go_cut [] from 25 (fun wx => Hid (wx.heap[gq]? = some (.cells qa.cells 34 (0, 0)) ∧ Below w8.heap.size w8 wx))
  case first =>
    cases fo
    · have hq : qa = xx.back := by rw [HQA.out]; rfl
      have HL7 := hid (load_tu (below_keeps HB10.out HT8.out.r0 (Array.getElem?_eq_some_iff.1 HT8.out.r0).1))
      have HBX := hid (back_any xx w10)
      rw [← hq] at HBX
      clear hq HQA
      go_wp2_with (first | (refine wpList_ld 34 ⟨g, 0, none⟩ (.tmp 7) rfl rfl HL7.out rfl ?_) | fail)
      refine HBX.out.mono ?_
      rintro _ w11 ⟨rfl, hb11⟩
      have HR11 := hid (below_keeps hb11 HR10.out (Array.getElem?_eq_some_iff.1 HR10.out).1)
      have HB11 := hid (HB10.out.trans (hb11.mono HB10.out.size))
      clear hb11
      go_wp2_with (first | (refine wpList_st rfl 34 (.tmp 19) (.tmp 79) rfl gq qa.cells rfl rfl _ qb.cells HR11.out (by kernel_rfl) rfl qa.one ?_; intro w12 hw hbut) | fail)
      go_meet
      exact ⟨hw, hbut.below HB11.out HB11.out.size HG8.out⟩
    · have hq : qa = qb := by rw [HQA.out, HQB.out]; rfl
      rw [← hq] at HR10
      clear hq HQA HQB
      go_wp2_with fail
      go_meet
      exact ⟨HR10.out, HB10.out⟩
  case rest =>
  obtain ⟨w12, hw12⟩ : ∃ u, u = wc := ⟨_, rfl⟩
  rw [← hw12] at hcut ⊢
  have HQ12 := hcut
  clear hw12 hcut HB10 HR10 HQB
  have HQP : Hid (qa.Ok ∧ (qa.p = 6 ∨ qa.p = 1 ∨ qa.p = 17) ∧ (qa.p = 1 → qa.dp = qa.sp) ∧ (qa.back = f.th ∨ qa.back = f.bk) ∧ decide (qa.back = f.th) = !fo) := by
    obtain ⟨p1, p2, p3, p4, p5, p6, -⟩ := HPR.out
    obtain ⟨f1, f2, -, -⟩ := HFF.out
    have hnb := HNB.out
    unfold Hid
    rw [HQA.out, f1, f2]
    cases fo
    · exact ⟨p1.back, p3, fun e => (p5 e).symm, .inl rfl, decide_eq_true rfl⟩
    · exact ⟨p2.back, by show bb.p = 6 ∨ bb.p = 1 ∨ bb.p = 17; rw [p4]; exact p3, fun e => (p6 e).symm, .inr rfl, decide_eq_false hnb⟩
  have HLQ := hid (load_tu HQ12.out.1)
  have HMQ := hid (made_sees qa 1 w12 HQP.out.1 (by omega))
  clear HQA HNB
  go_wp2_with (first | (refine wpList_ld 34 ⟨gq, 0, none⟩ (.tmp 19) rfl rfl HLQ.out rfl ?_) | fail)
  refine HMQ.out.mono ?_
  rintro _ w13 ⟨am, nm, cm, rfl, hsm, hb13⟩
  have HB13 := hid (HQ12.out.2.trans (hb13.mono HQ12.out.2.size))
  have hbw : Below w.heap.size w w13 := HT8.out.bel.trans (HB13.out.mono HT8.out.bel.size)
  have HFA := hid (fault_any (mdH qa) (.slice none 0 0) (.slice am nm cm) (mdB qa 1) ty co ar fr w13 (mdH_ok HQP.out.1) (sees_nil _) hsm (by show 0 ≤ _; omega) (by rw [mdB_len]; split <;> omega) hty hco hfr (HTC.out.below hbw) (HTK.out.below hbw))
  obtain ⟨FE, HFE⟩ : ∃ e, Hid (e = fltE (mdH qa) (mdB qa 1) ty co ar fr) := ⟨_, rfl⟩
  obtain ⟨FP, HFP⟩ : ∃ e, Hid (e = fltP (mdH qa) (mdB qa 1) ty co ar fr) := ⟨_, rfl⟩
  rw [← HFE.out, ← HFP.out] at HFA
  generalize pkCells (mdH qa) (.slice none 0 0) (.slice am nm cm) = pm at HFA ⊢
  clear hsm hb13 hbw HLQ HMQ HQ12
  go_wp2_with fail
  refine HFA.out.mono ?_
  rintro _ w14 ⟨a2, n2, c2, rfl, hsF, hnF, hb14⟩
  have HB14 := hid (HB13.out.trans (hb14.mono HB13.out.size))
  have HSF := hid hsF
  have HNF : Hid (∀ x, a2 = some x → w8.heap.size ≤ x.block) := fun x e => Nat.le_trans HB13.out.size (hnF x e)
  have HN14 : Hid ((w14.alloc (.cells #[.int .u8 0, .int .u16 0, .bool false, .bool false, .int .i64 0, .int .u8 0, .int .u8 0, .int .u32 0, .int .u32 0, .slice none 0 0, .slice none 0 0] 41)).heap[w14.heap.size]? = some (.cells #[.int .u8 0, .int .u16 0, .bool false, .bool false, .int .i64 0, .int .u8 0, .int .u8 0, .int .u32 0, .int .u32 0, .slice none 0 0, .slice none 0 0] 41 (0, 0))) := heap_alloc_new _ _
  clear hsF hnF hb14 HFA
  go_upto_region 22 with (first | (refine wpList_st rfl 41 (.tmp 20) (.tmp 88) rfl w14.heap.size (pkCells FP.1 (.slice none 0 0) (.slice a2 n2 c2)) rfl rfl _ #[.int .u8 0, .int .u16 0, .bool false, .bool false, .int .i64 0, .int .u8 0, .int .u8 0, .int .u32 0, .int .u32 0, .slice none 0 0, .slice none 0 0] HN14.out (by kernel_rfl) rfl (pk_one _ _ _ _ _ _ _) ?_; intro w15 hw hbut) | fail)
  obtain ⟨gp, HGP⟩ : ∃ g, Hid (g = w14.heap.size) := ⟨_, rfl⟩
  rw [← HGP.out] at hw hbut ⊢
  have hba : Below w8.heap.size w8 (w14.alloc (.cells #[.int .u8 0, .int .u16 0, .bool false, .bool false, .int .i64 0, .int .u8 0, .int .u8 0, .int .u32 0, .int .u32 0, .slice none 0 0, .slice none 0 0] 41)) := HB14.out.trans ((Below.refl _ _).alloc HB14.out.size _)
  have hgp : w8.heap.size ≤ gp := by rw [HGP.out]; exact HB14.out.size
  have hb45 : Below w14.heap.size w14 w15 := hbut.below ((Below.refl _ _).alloc (Nat.le_refl _) _) (by simp) (by rw [HGP.out]; exact Nat.le_refl _)
  have HB15 := hid (hbut.below hba hba.size hgp)
  have HSG := hid (HSF.out.below hb45)
  have HG14 := hid hgp
  have HR15 := hid hw
  clear hw hbut hba hgp hb45 HN14 HGP HSF HB13 HB14
  by_cases hE : FE = 0
  case neg =>
    have q : (FE != 0) = true := by simp [hE]
    go_wp2_with fail
    go_ret
    exact ⟨rfl, HT8.out.bel.trans (HB15.out.mono HT8.out.bel.size)⟩
  have q : (FE != 0) = false := by simp [hE]
  have hff := fault_facts HQP.out.1 HQP.out.2.1 HQP.out.2.2.1 hty hco hfr (by rw [← HFE.out]; exact hE)
  rw [← HFP.out] at hff
  have HFX := hid hff
  have HLI := hid (list_any w15 b 3 q1 F8 [(1, f)] (HS8.out.below HB15.out) HI.out (by omega) (by rw [HFF.out.2.2.2]; omega))
  clear hff hE HFE HFP
  go_upto_region 24 with fail
  go_wp2_with fail
  refine HLI.out.mono ?_
  rintro _ w16 ⟨al, nl, cl, R, rfl, hperm, -, how, hb16⟩
  obtain rfl : R = [f] := List.perm_singleton.1 (by simpa using hperm)
  obtain ⟨_, _, _, e0, HNL, -, -⟩ := how.shape
  simp only [Value.slice.injEq] at e0
  obtain ⟨rfl, rfl, rfl⟩ := e0
  obtain rfl : nl = 1 := HNL.out
  have HOW := hid (how.low (B' := w8.heap.size) HB15.out.size)
  have HB16 := hid (HB15.out.trans (hb16.mono HB15.out.size))
  have HSH := hid (HSG.out.below hb16)
  have HR16 := hid (below_keeps hb16 HR15.out (Array.getElem?_eq_some_iff.1 HR15.out).1)
  clear hperm how hb16 HNL HLI HR15 HSG
  have HLK : Hid (Calls Tryz.prog 16 #[.pointer (some ⟨b, 0, none⟩), .agg (pkCells FP.1 (.slice none 0 0) (.slice a2 n2 c2))] w16 fun e w' => e = .returned (.agg (trC 4 f (!fo))) ∧ Below w16.heap.size w16 w') := by
    obtain ⟨x1, x2, x3, x4, x5⟩ := HFX.out
    have := lookN_any w16 b 3 q1 F8 FP.1 (.slice none 0 0) (.slice a2 n2 c2) FP.2 (HS8.out.below HB16.out) x1 (by rw [x2]; exact sees_nil _) HSH.out (by rw [x2]; exact Nat.zero_le _) (by omega) (HTK.out.below (HT8.out.bel.trans (HB16.out.mono HT8.out.bel.size))) x5 (fk64 HI.out (by rw [HFF.out.2.2.2]; omega))
    rw [x4, lookA_one HI.out HQP.out.2.2.2.1] at this
    simp only [HQP.out.2.2.2.2] at this
    exact this
  have HPK := hid (pk_load HR16.out)
  have HSK : Hid (∀ w19 : World, Me.Keeps F8 w16 w19 → SeesB w19 (.slice a2 n2 c2) FP.2) := fun w19 hk => SeesB.kp HSH.out hk fun a n c e h => by
    injection e with e1 e2 e3
    have h1 := HNF.out a e1
    have h2 := HS8.out.lt h
    omega
  generalize hpk : pkCells FP.1 (.slice none 0 0) (.slice a2 n2 c2) = pk at HLK HPK HR16 ⊢
  have HPKE := hid hpk
  clear hpk
  go_wp2_with (first | (refine wpList_ld 41 ⟨gp, 0, none⟩ (.tmp 20) rfl rfl HPK.out rfl ?_) | fail)
  refine HLK.out.mono ?_
  rintro _ w17 ⟨rfl, hb17⟩
  have HN17 : Hid ((w17.alloc (.cells #[.int .i64 0, .int .u32 0, .int .u32 0, .int .u8 0, .int .u16 0, .int .u16 0, .int .u32 0, .int .u32 0, .int .u8 0, .int .u16 0, .int .u16 0, .int .i64 0, .int .i64 0, .bool false] 49)).heap[w17.heap.size]? = some (.cells zTr 49 (0, 0))) := heap_alloc_new _ _
  have HB17 := hid hb17
  clear hb17 HLK HPK
  go_upto_region 26 with (first | (refine wpList_st rfl 49 (.tmp 22) (.tmp 96) rfl w17.heap.size (trC 4 f (!fo)) rfl rfl _ zTr HN17.out (by kernel_rfl) rfl (trC_one _ _ _) ?_; intro w18 hw hbut) | fail)
  obtain ⟨gt, HGT⟩ : ∃ g, Hid (g = w17.heap.size) := ⟨_, rfl⟩
  rw [← HGT.out] at hw hbut ⊢
  have hba : Below w16.heap.size w16 (w17.alloc (.cells #[.int .i64 0, .int .u32 0, .int .u32 0, .int .u8 0, .int .u16 0, .int .u16 0, .int .u32 0, .int .u32 0, .int .u8 0, .int .u16 0, .int .u16 0, .int .i64 0, .int .i64 0, .bool false] 49)) := HB17.out.trans ((Below.refl _ _).alloc HB17.out.size _)
  have hgt : w16.heap.size ≤ gt := by rw [HGT.out]; exact HB17.out.size
  have hb68 : Below w16.heap.size w16 w18 := hbut.below hba hba.size hgt
  have HB68 := hid hb68
  have HB18 := hid (HB16.out.trans (hb68.mono HB16.out.size))
  have HG16 := hid hgt
  have HR18 := hid hw
  have HDU := hid (dues_any w18 b 3 q1 F8 [(1, f)] 1000 (HS8.out.below HB18.out) HI.out (by omega) (by rw [HFF.out.2.2.2]; omega) ⟨by omega, by omega⟩)
  clear hw hbut hba hgt hb68 HN17 HGT HB17
  go_wp2_with fail
  refine HDU.out.mono ?_
  rintro _ w19 ⟨ad, nd, cd, R2, q2, rfl, -, -, -, hI2, hla2, F9, hs9, -, hk9, -⟩
  rw [stay_none HFF.out.2.2.1] at hI2
  have hlt8 : ∀ k, w8.heap.size ≤ k → ¬ F8 k := fun k h1 h2 => by have := HS8.out.lt h2; omega
  have hk69 : Me.Keeps F8 w16 w19 := Me.Keeps.trans (Me.Keeps.of HB68.out) hk9
  have HBW9 := hid (kp_below hk9 (HT8.out.bel.trans (HB18.out.mono HT8.out.bel.size)) HF8.out (Nat.le_refl _))
  have HR19 := hid ((hk69.block _ (Array.getElem?_eq_some_iff.1 HR16.out).1 (hlt8 _ HG14.out)).trans HR16.out)
  have HRT9 := hid ((hk9.block _ (Array.getElem?_eq_some_iff.1 HR18.out).1 (hlt8 _ (by have := HG16.out; have := HB16.out.size; omega))).trans HR18.out)
  have HOW9 := hid (HOW.out.keeps hk69 fun k e => hlt8 k (HOW.out.lt e).1)
  have HSH9 := hid (HSK.out w19 hk69)
  have HI2 := hid hI2
  have HS9 := hid hs9
  have HLA2 : Hid (q2.last = 1) := hla2.trans HFF.out.2.2.2
  clear hI2 hla2 hs9 hk9 hlt8 hk69 HDU HSK HOW HR16 HR18 HSH HS8 HF8 HB68 HB18
  have HLK2 : Hid (Calls Tryz.prog 16 #[.pointer (some ⟨b, 0, none⟩), .agg pk] w19 fun e w' => e = .returned (.agg (trC 5 zFw false)) ∧ Below w19.heap.size w19 w') := by
    obtain ⟨x1, x2, x3, x4, x5⟩ := HFX.out
    have := lookN_any w19 b 3 q2 F9 FP.1 (.slice none 0 0) (.slice a2 n2 c2) FP.2 HS9.out x1 (by rw [x2]; exact sees_nil _) HSH9.out (by rw [x2]; exact Nat.zero_le _) (by omega) (HTK.out.below HBW9.out) x5 (fk64 HI2.out (by rw [HLA2.out]; omega))
    rw [x4, lookA_nil HI2.out, HPKE.out] at this
    exact this
  have HPK2 : Hid ((Instr.loadAt 41 (.pointer (some ⟨gp, 0, none⟩))).run Tryz.prog w19 = .ok (.agg pk) w19) := by
    have := HR19.out
    rw [← HPKE.out] at this ⊢
    exact pk_load this
  clear HPKE
  go_wp2_with (first | (refine wpList_ld 41 ⟨gp, 0, none⟩ (.tmp 20) rfl rfl HPK2.out rfl ?_) | fail)
  refine HLK2.out.mono ?_
  rintro _ w20 ⟨rfl, hb20⟩
  have HN20 : Hid ((w20.alloc (.cells #[.int .i64 0, .int .u32 0, .int .u32 0, .int .u8 0, .int .u16 0, .int .u16 0, .int .u32 0, .int .u32 0, .int .u8 0, .int .u16 0, .int .u16 0, .int .i64 0, .int .i64 0, .bool false] 49)).heap[w20.heap.size]? = some (.cells zTr 49 (0, 0))) := heap_alloc_new _ _
  have HB20 := hid hb20
  clear hb20 HLK2 HPK2
  go_upto_region 28 with (first | (refine wpList_st rfl 49 (.tmp 23) (.tmp 101) rfl w20.heap.size (trC 5 zFw false) rfl rfl _ zTr HN20.out (by kernel_rfl) rfl (trC_one _ _ _) ?_; intro w21 hw hbut) | fail)
  obtain ⟨gu, HGU⟩ : ∃ g, Hid (g = w20.heap.size) := ⟨_, rfl⟩
  rw [← HGU.out] at hw hbut ⊢
  have hba : Below w19.heap.size w19 (w20.alloc (.cells #[.int .i64 0, .int .u32 0, .int .u32 0, .int .u8 0, .int .u16 0, .int .u16 0, .int .u32 0, .int .u32 0, .int .u8 0, .int .u16 0, .int .u16 0, .int .i64 0, .int .i64 0, .bool false] 49)) := HB20.out.trans ((Below.refl _ _).alloc HB20.out.size _)
  have hb91 : Below w19.heap.size w19 w21 := hbut.below hba hba.size (by rw [HGU.out]; exact HB20.out.size)
  have HBW := hid (HBW9.out.trans (hb91.mono HBW9.out.size))
  obtain ⟨ge, rfl, hld⟩ := own_tu (HOW9.out.below hb91) (j := 0) rfl
  have hrt := below_keeps hb91 HRT9.out (Array.getElem?_eq_some_iff.1 HRT9.out).1
  have HLS : Hid (∀ u : World, Below w21.heap.size w21 u → (Instr.loadAt 49 (.pointer (some ⟨gt, 0, none⟩))).run Tryz.prog u = .ok (.agg (trC 4 f (!fo))) u ∧ (Instr.loadAt 49 (.pointer (some ⟨gu, 0, none⟩))).run Tryz.prog u = .ok (.agg (trC 5 zFw false)) u ∧ (Instr.loadAt 44 (.pointer (some ⟨ge, 0, none⟩))).run Tryz.prog u = .ok (.agg f.cells) u) := fun u hu =>
    ⟨load_tr (below_keeps hu hrt (Array.getElem?_eq_some_iff.1 hrt).1), load_tr (below_keeps hu hw (Array.getElem?_eq_some_iff.1 hw).1), by have := (hld u hu).2.2.2.2; rwa [Nat.zero_mul] at this⟩
  clear hw hbut hba hb91 hld hrt HN20 HGU HB20 HRT9 HOW9 HR19 HSH9
  refine wp_region_guarded' 18 (fun i => ([102, 103, 104, 105, 106, 107, 108, 109, 110, 111, 112, 113, 114, 115, 116, 117, 118, 119] : List Tmp).getD i 0) (Vs [.slice (some ⟨ge, 0, none⟩) 1 cl, .int .i64 1, .bool true, .bool true, .agg (trC 4 f (!fo)), .slice (some ⟨ge, 0, none⟩) 1 cl, .pointer (some ⟨ge, 0, none⟩), .agg f.cells, .bool fo, .bool (!fo), .agg (trC 4 f (!fo)), .bool true, .bool true, .bool true, .agg (trC 5 zFw false), .agg (trC 5 zFw false), .bool true, .bool true]) (fun u => Below w21.heap.size w21 u) (fun _ u u' => Below u.heap.size u u') (by kernel_rfl) (by kernel_rfl) ⟨rfl, rfl, rfl, Nat.le_refl _, fun _ _ => rfl⟩ (fun _ _ _ _ _ _ h _ _ => h) ?_ ?_
  · simp only [List.take_succ_cons, List.take_zero, stepsG]
    refine ⟨?_, ?_, ?_, ?_, ?_, ?_, ?_, ?_, ?_, ?_, ?_, ?_, ?_, ?_, ?_, ?_, ?_, ?_, trivial⟩
    · intro a u vs hI hold hdep
      exact opAt_plain rfl (wp_still (ex_move (.tmp 21) _ rfl (hold 21 (dlM (L := [102, 103, 104, 105, 106, 107, 108, 109, 110, 111, 112, 113, 114, 115, 116, 117, 118, 119]) (by decide)))) rfl rfl hI)
    · intro a u vs hI hold hdep
      exact opAt_plain rfl (wp_still (ex_len (.tmp 102) _ _ ((1 : Nat) : Int) rfl (Vs.dep (hdep ⟨0, .data⟩ (by simp) rfl (by decide)) rfl) (len_sl _ _ _ _ _)) rfl rfl hI)
    · intro a u vs hI hold hdep
      exact opAt_plain rfl (wp_still (ex_eqNb (.tmp 103) (.const (.int .i64 1)) _ 1 1 true rfl (Vs.dep (hdep ⟨1, .data⟩ (by simp) rfl (by decide)) rfl) rfl rfl) rfl rfl hI)
    · intro a u vs hI hold hdep
      exact opAt_plain rfl (wp_still (ex_move (.tmp 104) _ rfl (Vs.dep (hdep ⟨2, .data⟩ (by simp) rfl (by decide)) rfl)) rfl rfl hI)
    · intro a u vs hI hold hdep
      exact opAt_go (j := 3) (t := 105) (b := true) rfl rfl (Vs.dep (hdep ⟨3, .guard⟩ (by simp) rfl (by decide)) rfl) (wp_still (ex_load _ ⟨gt, 0, none⟩ (.tmp 22) _ rfl (hold 22 (dlM (L := [102, 103, 104, 105, 106, 107, 108, 109, 110, 111, 112, 113, 114, 115, 116, 117, 118, 119]) (by decide))) ((HLS.out u hI).1)) rfl rfl hI)
    · intro a u vs hI hold hdep
      exact opAt_go (j := 3) (t := 105) (b := true) rfl rfl (Vs.dep (hdep ⟨3, .guard⟩ (by simp) rfl (by decide)) rfl) (wp_still (ex_move (.tmp 21) _ rfl (hold 21 (dlM (L := [102, 103, 104, 105, 106, 107, 108, 109, 110, 111, 112, 113, 114, 115, 116, 117, 118, 119]) (by decide)))) rfl rfl hI)
    · intro a u vs hI hold hdep
      exact opAt_go (j := 3) (t := 105) (b := true) rfl rfl (Vs.dep (hdep ⟨3, .guard⟩ (by simp) rfl (by decide)) rfl) (wp_still (ex_index 29 (.tmp 107) (.const (.int .i64 0)) _ _ _ rfl (Vs.dep (hdep ⟨5, .data⟩ (by simp) rfl (by decide)) rfl) rfl (idx0 ge cl u)) rfl rfl hI)
    · intro a u vs hI hold hdep
      exact opAt_go (j := 3) (t := 105) (b := true) rfl rfl (Vs.dep (hdep ⟨3, .guard⟩ (by simp) rfl (by decide)) rfl) (wp_still (ex_load _ ⟨ge, 0, none⟩ (.tmp 108) _ rfl (Vs.dep (hdep ⟨6, .data⟩ (by simp) rfl (by decide)) rfl) ((HLS.out u hI).2.2)) rfl rfl hI)
    · intro a u vs hI hold hdep
      exact opAt_go (j := 3) (t := 105) (b := true) rfl rfl (Vs.dep (hdep ⟨3, .guard⟩ (by simp) rfl (by decide)) rfl) (wp_still (ex_move (.tmp 2) _ rfl (hold 2 (dlM (L := [102, 103, 104, 105, 106, 107, 108, 109, 110, 111, 112, 113, 114, 115, 116, 117, 118, 119]) (by decide)))) rfl rfl hI)
    · intro a u vs hI hold hdep
      exact opAt_go (j := 3) (t := 105) (b := true) rfl rfl (Vs.dep (hdep ⟨3, .guard⟩ (by simp) rfl (by decide)) rfl) (wp_still (ex_notB (.tmp 110) _ fo rfl (Vs.dep (hdep ⟨8, .data⟩ (by simp) rfl (by decide)) rfl)) rfl rfl hI)
    · intro a u vs hI hold hdep
      have x0 : a.eval (.tmp 109) = .agg f.cells := (Vs.dep (hdep ⟨7, .data⟩ (by simp) rfl (by decide)) rfl)
      have x1 : a.eval (.tmp 111) = .bool (!fo) := (Vs.dep (hdep ⟨9, .data⟩ (by simp) rfl (by decide)) rfl)
      exact opAt_go (j := 3) (t := 105) (b := true) rfl rfl (Vs.dep (hdep ⟨3, .guard⟩ (by simp) rfl (by decide)) rfl) (wp_still (ex_build 49 _ #[(0, .int .i64 4), (1, .agg f.cells), (2, .bool (!fo))] _ rfl (by simp only [List.map_toArray, List.map_cons, List.map_nil, x0, x1]; rfl) (build_tr3 4 f (!fo) _)) rfl rfl hI)
    · intro a u vs hI hold hdep
      exact opAt_go (j := 3) (t := 105) (b := true) rfl rfl (Vs.dep (hdep ⟨3, .guard⟩ (by simp) rfl (by decide)) rfl) (wp_still (ex_eqTr (.tmp 106) (.tmp 112) _ 4 f (!fo) rfl (Vs.dep (hdep ⟨4, .data⟩ (by simp) rfl (by decide)) rfl) (Vs.dep (hdep ⟨10, .data⟩ (by simp) rfl (by decide)) rfl)) rfl rfl hI)
    · intro a u vs hI hold hdep
      exact opAt_plain rfl (wp_still (ex_pick (.tmp 105) (.tmp 113) (.const (.bool false)) true (.bool true) rfl (Vs.dep (hdep ⟨3, .data⟩ (by simp) rfl (by decide)) rfl) (Vs.dep (hdep ⟨11, .data⟩ (by simp) rfl (by decide)) rfl)) rfl rfl hI)
    · intro a u vs hI hold hdep
      exact opAt_plain rfl (wp_still (ex_move (.tmp 114) _ rfl (Vs.dep (hdep ⟨12, .data⟩ (by simp) rfl (by decide)) rfl)) rfl rfl hI)
    · intro a u vs hI hold hdep
      exact opAt_go (j := 13) (t := 115) (b := true) rfl rfl (Vs.dep (hdep ⟨13, .guard⟩ (by simp) rfl (by decide)) rfl) (wp_still (ex_load _ ⟨gu, 0, none⟩ (.tmp 23) _ rfl (hold 23 (dlM (L := [102, 103, 104, 105, 106, 107, 108, 109, 110, 111, 112, 113, 114, 115, 116, 117, 118, 119]) (by decide))) ((HLS.out u hI).2.1)) rfl rfl hI)
    · intro a u vs hI hold hdep
      exact opAt_go (j := 13) (t := 115) (b := true) rfl rfl (Vs.dep (hdep ⟨13, .guard⟩ (by simp) rfl (by decide)) rfl) (wp_still (ex_build 49 _ #[(0, .int .i64 5)] _ rfl (by simp only [List.map_toArray, List.map_cons, List.map_nil]; rfl) (build_tr1 5 _)) rfl rfl hI)
    · intro a u vs hI hold hdep
      exact opAt_go (j := 13) (t := 115) (b := true) rfl rfl (Vs.dep (hdep ⟨13, .guard⟩ (by simp) rfl (by decide)) rfl) (wp_still (ex_eqTr (.tmp 116) (.tmp 117) _ 5 zFw false rfl (Vs.dep (hdep ⟨14, .data⟩ (by simp) rfl (by decide)) rfl) (Vs.dep (hdep ⟨15, .data⟩ (by simp) rfl (by decide)) rfl)) rfl rfl hI)
    · intro a u vs hI hold hdep
      exact opAt_plain rfl (wp_still (ex_pick (.tmp 115) (.tmp 118) (.const (.bool false)) true (.bool true) rfl (Vs.dep (hdep ⟨13, .data⟩ (by simp) rfl (by decide)) rfl) (Vs.dep (hdep ⟨16, .data⟩ (by simp) rfl (by decide)) rfl)) rfl rfl hI)
  intro vs u hI hF
  have e0 : vs 0 = .slice (some ⟨ge, 0, none⟩) 1 cl := (Option.some.inj (hF 0 (by decide))).symm
  have e1 : vs 1 = .int .i64 1 := (Option.some.inj (hF 1 (by decide))).symm
  have e2 : vs 2 = .bool true := (Option.some.inj (hF 2 (by decide))).symm
  have e3 : vs 3 = .bool true := (Option.some.inj (hF 3 (by decide))).symm
  have e4 : vs 4 = .agg (trC 4 f (!fo)) := (Option.some.inj (hF 4 (by decide))).symm
  have e5 : vs 5 = .slice (some ⟨ge, 0, none⟩) 1 cl := (Option.some.inj (hF 5 (by decide))).symm
  have e6 : vs 6 = .pointer (some ⟨ge, 0, none⟩) := (Option.some.inj (hF 6 (by decide))).symm
  have e7 : vs 7 = .agg f.cells := (Option.some.inj (hF 7 (by decide))).symm
  have e8 : vs 8 = .bool fo := (Option.some.inj (hF 8 (by decide))).symm
  have e9 : vs 9 = .bool (!fo) := (Option.some.inj (hF 9 (by decide))).symm
  have e10 : vs 10 = .agg (trC 4 f (!fo)) := (Option.some.inj (hF 10 (by decide))).symm
  have e11 : vs 11 = .bool true := (Option.some.inj (hF 11 (by decide))).symm
  have e12 : vs 12 = .bool true := (Option.some.inj (hF 12 (by decide))).symm
  have e13 : vs 13 = .bool true := (Option.some.inj (hF 13 (by decide))).symm
  have e14 : vs 14 = .agg (trC 5 zFw false) := (Option.some.inj (hF 14 (by decide))).symm
  have e15 : vs 15 = .agg (trC 5 zFw false) := (Option.some.inj (hF 15 (by decide))).symm
  have e16 : vs 16 = .bool true := (Option.some.inj (hF 16 (by decide))).symm
  have e17 : vs 17 = .bool true := (Option.some.inj (hF 17 (by decide))).symm
  clear hF
  simp only [List.drop_succ_cons, List.drop_zero, puts, List.range, List.range.loop, List.foldr, if_true, List.getD_cons_zero, List.getD_cons_succ, e0, e1, e2, e3, e4, e5, e6, e7, e8, e9, e10, e11, e12, e13, e14, e15, e16, e17, Act.put, List.setIfInBounds_toArray, List.set_cons_zero, List.set_cons_succ]
  clear e0 e1 e2 e3 e4 e5 e6 e7 e8 e9 e10 e11 e12 e13 e14 e15 e16 e17
  have HBU := hid (HBW.out.trans (hI.mono HBW.out.size))
  clear hI HLS
  go_wp2_with fail
  go_ret
  exact ⟨rfl, HBU.out⟩
end Go.Proofs.YthmhiehglcfepaaGreatDoor.Fl
