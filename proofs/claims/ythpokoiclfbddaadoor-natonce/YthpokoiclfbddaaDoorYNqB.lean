import Derived.Test.YthpokoiclfbddaaDoorYNqA
namespace Go.Proofs.YthpokoiclfbddaaDoor.Nq
open Go.Proofs.YthpokoiclfbddaaDoor Go.ChangeShapes Go.WideShapes Go.ChangeAt Go.RowKit Go.Maps Fl
open Go.Proofs.YthpokoiclfbddaaDoor.N hiding But But.set But.of_below But.refl But.trans But.below But.drew wpList_ld
set_option maxHeartbeats 4000000
set_option maxRecDepth 100000

def prt (X : List Nat) (o : Nat) (t : Tu) : List Nat := p16 (p16 X o t.sp) (o + 2) t.dp
theorem prt_len (X : List Nat) (o : Nat) (t : Tu) : (prt X o t).length = X.length := by simp [prt, p16_len]
theorem prt_lt {X : List Nat} (h : ∀ x ∈ X, x < 256) {o : Nat} {t : Tu} (ht : t.Ok) : ∀ y ∈ prt X o t, y < 256 := p16_lt (p16_lt h ht.sp) ht.dp
def dgS (Y : List Nat) (k : Nat) (Q : List (Nat × Nat)) : List Nat := if w16 Y k = 0 then Y else p16 Y k (if ts (w16 Y k) Q = 0 then 65535 else ts (w16 Y k) Q)
theorem dgS_len (Y : List Nat) (k : Nat) (Q : List (Nat × Nat)) : (dgS Y k Q).length = Y.length := by unfold dgS; split <;> simp [p16_len]
theorem dgS_lt {Y : List Nat} (h : ∀ x ∈ Y, x < 256) (k : Nat) (Q : List (Nat × Nat)) : ∀ y ∈ dgS Y k Q, y < 256 := by
  have := ts_lt (w16_lt h k) Q
  unfold dgS; split
  · exact h
  · refine p16_lt h ?_
    split <;> omega
def tmL (p o n : Nat) (X : List Nat) (a b : Tu) : List Nat :=
  if p = 17 then dgS (prt X o b) (o + 6) ((wo a).zip (wo b))
  else if p = 6 then (if 18 ≤ n then p16 (prt X o b) (o + 16) (ts (w16 (prt X o b) (o + 16)) ((wo a).zip (wo b))) else prt X o b)
  else if p = 1 then p16 (p16 X (o + 4) b.sp) (o + 2) (tw (w16 (p16 X (o + 4) b.sp) (o + 2)) a.sp b.sp)
  else X
theorem tmL_len (p o n : Nat) (X : List Nat) (a b : Tu) : (tmL p o n X a b).length = X.length := by
  unfold tmL
  split
  · rw [dgS_len, prt_len]
  · split
    · split
      · rw [p16_len, prt_len]
      · rw [prt_len]
    · split
      · rw [p16_len, p16_len]
      · rfl
theorem tmL_lt {p o n : Nat} {X : List Nat} {a b : Tu} (hX : ∀ x ∈ X, x < 256) (hb : b.Ok) : ∀ y ∈ tmL p o n X a b, y < 256 := by
  unfold tmL
  split
  · exact dgS_lt (prt_lt hX hb) _ _
  · split
    · split
      · exact p16_lt (prt_lt hX hb) (ts_lt (w16_lt (prt_lt hX hb) _) _)
      · exact prt_lt hX hb
    · split
      · exact p16_lt (p16_lt hX hb.sp) (tw_lt (w16_lt (p16_lt hX hb.sp) _) _ _)
      · exact hX

theorem nt_fl (b : Nat) (u : World) : (Instr.fieldAt 38 (.pointer (some ⟨b, 0, none⟩)) 3).run Tryd.prog u = .ok (.pointer (some ⟨b, 3, none⟩)) u ∧ (Instr.fieldAt 38 (.pointer (some ⟨b, 0, none⟩)) 4).run Tryd.prog u = .ok (.pointer (some ⟨b, 4, none⟩)) u := by
  constructor <;> kernel_rfl
theorem cut0 (g o n c2 : Nat) (h : 0 < c2) (u : World) : (Instr.sliceAt 32 (.slice (some ⟨g, o, none⟩) n c2) (some (.int .i64 0)) none none).run Tryd.prog u = .ok (.slice (some ⟨g, o, none⟩) n c2) u := by
  simpa using cutB g o n c2 0 0 rfl (Nat.zero_le _) h u
theorem cutm (g o n c2 m : Nat) (i : Int) (hi : i = m) (hm : m ≤ n) (hc : n ≤ c2) (hs : m < n) (u : World) : (Instr.sliceAt 32 (.slice (some ⟨g, o, none⟩) n c2) (some (.int .i64 i)) none none).run Tryd.prog u = .ok (.slice (some ⟨g, o + m, none⟩) (n - m) (c2 - m)) u := cutB g o n c2 m i hi hm (by omega) u
/-- What a box of a tuple holds. -/
structure TuB (u : World) (b : Nat) (t : Tu) : Prop where
  ld : (Instr.loadAt 38 (.pointer (some ⟨b, 0, none⟩))).run Tryd.prog u = .ok (.agg t.cells) u
  p : u.cell? ⟨b, 2, none⟩ = some (.int .u8 (t.p : Int))
  sp : u.cell? ⟨b, 3, none⟩ = some (.int .u16 (t.sp : Int))
  dp : u.cell? ⟨b, 4, none⟩ = some (.int .u16 (t.dp : Int))
  s : u.cell? ⟨b, 0, none⟩ = some (.int .u32 (t.s : Int))
  d : u.cell? ⟨b, 1, none⟩ = some (.int .u32 (t.d : Int))
theorem tub {u : World} {b : Nat} {t : Tu} (h : u.heap[b]? = some (.cells t.cells 38 (0, 0))) : TuB u b t := by
  obtain ⟨k0, k1, k2, k3, k4⟩ := ce_tuq h
  exact ⟨load_tu h, k2, k3, k4, k0, k1⟩

theorem writePorts_any (g o n c2 c : Nat) (X : List Nat) (t : Tu) (w : World) (hB : Bk w g c X) (ht : t.Ok) (hn : 4 ≤ n) (hc : n ≤ c2) (ho : o + 4 ≤ X.length) :
    Calls Tryd.prog 54 #[.slice (some ⟨g, o, none⟩) n c2, .agg t.cells] w fun e w' => e = .returned (.tuple #[]) ∧ Bk w' g c (prt X o t) ∧ But g w w' := by
  obtain ⟨w0, HW0⟩ : ∃ w0, Hid (w0 = w.alloc (.cells t.cells 38)) := ⟨_, rfl⟩
  have hb0 : Below w.heap.size w w0 := by rw [HW0.out]; exact (Below.refl _ _).alloc (Nat.le_refl _) _
  obtain ⟨b, HB⟩ : ∃ b, Hid (b = w.heap.size) := ⟨_, rfl⟩
  have r0 : w0.heap[b]? = some (.cells t.cells 38 (0, 0)) := by rw [HW0.out, HB.out]; exact heap_alloc_new w _
  have hgb : g < b := by rw [HB.out]; exact hB.lt
  have hbl := (Array.getElem?_eq_some_iff.1 r0).1
  have HT : Hid (∀ u, But g w0 u → TuB u b t) := fun u hu => tub ((hu.block b hbl (by omega)).trans r0)
  have HB0 := hid (hB.below hb0)
  have HW1 : Hid (∀ u, Below w0.heap.size w0 u → Calls Tryd.prog 58 #[.slice (some ⟨g, o, none⟩) n c2, .int .u16 (t.sp : Int)] u fun e w' => e = .returned (.tuple #[]) ∧ Bk w' g c (p16 X o t.sp) ∧ But g w0 w') := fun u hu =>
    (write16_any g o n c2 c t.sp X u (HB0.out.below hu) (by omega) (by omega) ht.sp).mono fun e w' ⟨h1, h2, h3⟩ => ⟨h1, h2, (But.of_below hu).trans h3⟩
  have HW2 : Hid (∀ u, Bk u g c (p16 X o t.sp) → But g w0 u → Calls Tryd.prog 58 #[.slice (some ⟨g, o + 2, none⟩) (n - 2) (c2 - 2), .int .u16 (t.dp : Int)] u fun e w' => e = .returned (.tuple #[]) ∧ Bk w' g c (prt X o t) ∧ But g w w') := fun u hk hu =>
    (write16_any g (o + 2) (n - 2) (c2 - 2) c t.dp _ u hk (by omega) (by rw [p16_len]; omega) ht.dp).mono fun e w' ⟨h1, h2, h3⟩ => ⟨h1, h2, ((But.of_below hb0).trans hu).trans h3⟩
  have HC0 := hid (cut0 g o n c2 (by omega))
  have HC2 := hid (cutm g o n c2 2 2 rfl (by omega) hc (by omega))
  generalize t.cells = tc at *
  clear hB ht hn hc ho hb0 r0 hgb hbl
  go_enter Tryd.func54, Tryd.ntmps54
  go_upto_region 1 with fail
  rw [← HW0.out, ← HB.out]
  refine wp_region_guarded' 4 (fun i => ([4, 5, 6, 7] : List Tmp).getD i 0) (Vs [.slice (some ⟨g, o, none⟩) n c2, .slice (some ⟨g, o, none⟩) n c2, .pointer (some ⟨b, 3, none⟩), .int .u16 (t.sp : Int)]) (fun u => Below w0.heap.size w0 u) (fun _ u u' => Below u.heap.size u u') (by kernel_rfl) (by kernel_rfl) ⟨rfl, rfl, rfl, Nat.le_refl _, fun _ _ => rfl⟩ (fun _ _ _ _ _ _ h _ _ => h) ?_ ?_
  · simp only [List.take_succ_cons, List.take_zero, stepsG]
    refine ⟨?_, ?_, ?_, ?_, trivial⟩
    · intro a u vs hI hold hdep
      exact opAt_plain rfl (wp_still (ex_move (.tmp 0) _ rfl (hold 0 (dlM (L := [4, 5, 6, 7]) (by decide)))) rfl rfl hI)
    · intro a u vs hI hold hdep
      exact opAt_plain rfl (wp_still (ex_cut 32 (.tmp 4) (.const (.int .i64 0)) _ _ _ rfl (Vs.dep (hdep ⟨0, .data⟩ (by simp) rfl (by decide)) rfl) rfl (HC0.out u)) rfl rfl hI)
    · intro a u vs hI hold hdep
      exact opAt_plain rfl (wp_still (ex_field _ ⟨b, 0, none⟩ (.tmp 3) 3 _ rfl (hold 3 (dlM (L := [4, 5, 6, 7]) (by decide))) ((nt_fl b u).1)) rfl rfl hI)
    · intro a u vs hI hold hdep
      exact opAt_plain rfl (wp_still (ex_load _ ⟨b, 3, none⟩ (.tmp 6) _ rfl (Vs.dep (hdep ⟨2, .data⟩ (by simp) rfl (by decide)) rfl) (ldP (HT.out u (But.of_below hI)).sp)) rfl rfl hI)
  intro vs u1 hI hF
  have e0 : vs 0 = .slice (some ⟨g, o, none⟩) n c2 := (Option.some.inj (hF 0 (by decide))).symm
  have e1 : vs 1 = .slice (some ⟨g, o, none⟩) n c2 := (Option.some.inj (hF 1 (by decide))).symm
  have e2 : vs 2 = .pointer (some ⟨b, 3, none⟩) := (Option.some.inj (hF 2 (by decide))).symm
  have e3 : vs 3 = .int .u16 (t.sp : Int) := (Option.some.inj (hF 3 (by decide))).symm
  clear hF
  simp only [List.drop_succ_cons, List.drop_zero, puts, List.range, List.range.loop, List.foldr, if_true, List.getD_cons_zero, List.getD_cons_succ, e0, e1, e2, e3, Act.put, List.setIfInBounds_toArray, List.set_cons_zero, List.set_cons_succ]
  clear e0 e1 e2 e3
  have HI1 := hid hI
  clear hI
  go_wp2_with fail
  refine (HW1.out u1 HI1.out).mono ?_
  rintro _ w2 ⟨rfl, hk2, hu2⟩
  have HK2 := hid hk2
  have HU2 := hid hu2
  clear hk2 hu2
  go_upto_region 2 with fail
  refine wp_region_guarded' 4 (fun i => ([9, 10, 11, 12] : List Tmp).getD i 0) (Vs [.slice (some ⟨g, o, none⟩) n c2, .slice (some ⟨g, o + 2, none⟩) (n - 2) (c2 - 2), .pointer (some ⟨b, 4, none⟩), .int .u16 (t.dp : Int)]) (fun u => Below w2.heap.size w2 u) (fun _ u u' => Below u.heap.size u u') (by kernel_rfl) (by kernel_rfl) ⟨rfl, rfl, rfl, Nat.le_refl _, fun _ _ => rfl⟩ (fun _ _ _ _ _ _ h _ _ => h) ?_ ?_
  · simp only [List.take_succ_cons, List.take_zero, stepsG]
    refine ⟨?_, ?_, ?_, ?_, trivial⟩
    · intro a u vs hI hold hdep
      exact opAt_plain rfl (wp_still (ex_move (.tmp 0) _ rfl (hold 0 (dlM (L := [9, 10, 11, 12]) (by decide)))) rfl rfl hI)
    · intro a u vs hI hold hdep
      exact opAt_plain rfl (wp_still (ex_cut 32 (.tmp 9) (.const (.int .i64 2)) _ _ _ rfl (Vs.dep (hdep ⟨0, .data⟩ (by simp) rfl (by decide)) rfl) rfl (HC2.out u)) rfl rfl hI)
    · intro a u vs hI hold hdep
      exact opAt_plain rfl (wp_still (ex_field _ ⟨b, 0, none⟩ (.tmp 3) 4 _ rfl (hold 3 (dlM (L := [9, 10, 11, 12]) (by decide))) ((nt_fl b u).2)) rfl rfl hI)
    · intro a u vs hI hold hdep
      exact opAt_plain rfl (wp_still (ex_load _ ⟨b, 4, none⟩ (.tmp 11) _ rfl (Vs.dep (hdep ⟨2, .data⟩ (by simp) rfl (by decide)) rfl) (ldP (HT.out u (HU2.out.trans (But.of_below hI))).dp)) rfl rfl hI)
  intro vs u2 hI hF
  have e0 : vs 0 = .slice (some ⟨g, o, none⟩) n c2 := (Option.some.inj (hF 0 (by decide))).symm
  have e1 : vs 1 = .slice (some ⟨g, o + 2, none⟩) (n - 2) (c2 - 2) := (Option.some.inj (hF 1 (by decide))).symm
  have e2 : vs 2 = .pointer (some ⟨b, 4, none⟩) := (Option.some.inj (hF 2 (by decide))).symm
  have e3 : vs 3 = .int .u16 (t.dp : Int) := (Option.some.inj (hF 3 (by decide))).symm
  clear hF
  simp only [List.drop_succ_cons, List.drop_zero, puts, List.range, List.range.loop, List.foldr, if_true, List.getD_cons_zero, List.getD_cons_succ, e0, e1, e2, e3, Act.put, List.setIfInBounds_toArray, List.set_cons_zero, List.set_cons_succ]
  clear e0 e1 e2 e3
  have HI2 := hid hI
  clear hI
  go_wp2_with fail
  refine (HW2.out u2 (HK2.out.below HI2.out) (HU2.out.trans (But.of_below HI2.out))).mono ?_
  rintro _ w3 ⟨rfl, hk3, hu3⟩
  have HF := hid (And.intro hk3 hu3)
  clear hk3 hu3
  go_wp2_with fail
  exact bodyPost_end (results_none Tryd.results54 _ _ _) rfl ⟨rfl, HF.out⟩

theorem turnDg_any (g o n c2 c : Nat) (W V X : List Nat) (w : World) (hB : Bk w g c X) (hX : ∀ x ∈ X, x < 256) (hn : 2 ≤ n) (ho : o + 2 ≤ X.length) (hW : ∀ x ∈ W, x < 65536) (hV : ∀ x ∈ V, x < 65536) (lW : W.length = 6) (lV : V.length = 6) :
    Calls Tryd.prog 55 #[.slice (some ⟨g, o, none⟩) n c2, .agg (wc W), .agg (wc V)] w fun e w' => e = .returned (.tuple #[]) ∧ Bk w' g c (dgS X o (W.zip V)) ∧ But g w w' := by
  obtain ⟨w0, hw0, hb0, r1, r2⟩ := box2 w (wc W) (wc V) 122 122
  obtain ⟨b, HB⟩ : ∃ b, Hid (b = w.heap.size) := ⟨_, rfl⟩
  have HW0 := hid hw0
  rw [← HB.out] at r1 r2
  have hbl : b + 1 < w0.heap.size := (Array.getElem?_eq_some_iff.1 r2).1
  have HLD : Hid (∀ u, Below w0.heap.size w0 u → (Instr.loadAt 122 (.pointer (some ⟨b, 0, none⟩))).run Tryd.prog u = .ok (.agg (wc W)) u ∧ (Instr.loadAt 122 (.pointer (some ⟨b + 1, 0, none⟩))).run Tryd.prog u = .ok (.agg (wc V)) u) := fun u hu =>
    ⟨load_wc lW (below_keeps hu r1 (by omega)), load_wc lV (below_keeps hu r2 hbl)⟩
  have HRD := hid (read16_any g o n c2 c X w0 (hB.below hb0) hX hn ho)
  have HB0 := hid (hB.below hb0)
  have HBU0 : Hid (But g w w0) := But.of_below hb0
  have hs := ts_lt (w16_lt hX o) (W.zip V)
  have HTS : Hid (∀ u, Below w0.heap.size w0 u → Calls Tryd.prog 57 #[.slice (some ⟨g, o, none⟩) n c2, .agg (wc W), .agg (wc V)] u fun e w' => e = .returned (.tuple #[]) ∧ Bk w' g c (p16 X o (ts (w16 X o) (W.zip V))) ∧ But g w w') := fun u hu =>
    (turnSum_any g o n c2 c W V X u (HB0.out.below hu) hX hn ho hW hV lW lV).mono fun e w' ⟨h1, h2, h3⟩ => ⟨h1, h2, (HBU0.out.trans (But.of_below hu)).trans h3⟩
  have HR2 : Hid (∀ u, Bk u g c (p16 X o (ts (w16 X o) (W.zip V))) → Calls Tryd.prog 77 #[.slice (some ⟨g, o, none⟩) n c2] u fun e w' => e = .returned (.int .u16 ((ts (w16 X o) (W.zip V) : Nat) : Int)) ∧ Below u.heap.size u w') := fun u hk => by
    have := read16_any g o n c2 c _ u hk (p16_lt hX hs) hn (by rw [p16_len]; exact ho)
    rwa [w16_p16 ho] at this
  have HW2 : Hid (∀ u, Bk u g c (p16 X o (ts (w16 X o) (W.zip V))) → But g w u → Calls Tryd.prog 58 #[.slice (some ⟨g, o, none⟩) n c2, .int .u16 65535] u fun e w' => e = .returned (.tuple #[]) ∧ Bk w' g c (p16 X o 65535) ∧ But g w w') := fun u hk hu => by
    have := write16_any g o n c2 c 65535 _ u hk hn (by rw [p16_len]; exact ho) (by omega)
    rw [p16_p16] at this
    exact this.mono fun e w' ⟨h1, h2, h3⟩ => ⟨h1, h2, hu.trans h3⟩
  obtain ⟨R, HRR⟩ : ∃ R, Hid (R = dgS X o (W.zip V)) := ⟨_, rfl⟩
  have HD : Hid (R = if w16 X o = 0 then X else p16 X o (if ts (w16 X o) (W.zip V) = 0 then 65535 else ts (w16 X o) (W.zip V))) := by unfold Hid; rw [HRR.out]; rfl
  rw [← HRR.out]
  generalize ts (w16 X o) (W.zip V) = S at *
  generalize w16 X o = s at *
  generalize wc W = cW at *
  generalize wc V = cV at *
  clear hw0 r1 r2 hbl hb0 hB hX hn ho hW hV lW lV hs HRR
  go_enter Tryd.func55, Tryd.ntmps55
  go_upto_region 1 with fail
  rw [← HW0.out, ← HB.out]
  go_wp2_with fail
  refine HRD.out.mono ?_
  rintro _ w1 ⟨rfl, hb1⟩
  have HB1 := hid hb1
  clear hb1
  by_cases h0 : s = 0
  · subst h0
    have HF : Hid (Bk w1 g c R ∧ But g w w1) := ⟨by rw [HD.out, if_pos rfl]; exact HB0.out.below HB1.out, HBU0.out.trans (But.of_below HB1.out)⟩
    clear HD
    go_wp2_with fail
    exact bodyPost_ret (results_none Tryd.results55 _ _ _) rfl ⟨rfl, HF.out⟩
  · have q0 : ((s : Int) == 0) = false := by simp; omega
    have HD2 : Hid (R = p16 X o (if S = 0 then 65535 else S)) := by unfold Hid; rw [HD.out, if_neg h0]
    clear HD
    obtain ⟨l1, l2⟩ := HLD.out w1 HB1.out
    have L1 := hid l1
    have L2 := hid l2
    clear l1 l2 h0
    go_wp2_with (first | (refine wpList_ld 122 ⟨b, 0, none⟩ (.tmp 4) rfl rfl L1.out rfl ?_) | (refine wpList_ld 122 ⟨b + 1, 0, none⟩ (.tmp 5) rfl rfl L2.out rfl ?_) | fail)
    refine (HTS.out w1 HB1.out).mono ?_
    rintro _ w2 ⟨rfl, hk2, hu2⟩
    have HK2 := hid hk2
    have HU2 := hid hu2
    clear hk2 hu2
    go_wp2_with fail
    refine (HR2.out w2 HK2.out).mono ?_
    rintro _ w3 ⟨rfl, hb3⟩
    have HK3 := hid (HK2.out.below hb3)
    have HU3 := hid (HU2.out.trans (But.of_below hb3))
    clear hb3
    by_cases h1 : S = 0
    · subst h1
      go_wp2_with fail
      refine (HW2.out w3 HK3.out HU3.out).mono ?_
      rintro _ w4 ⟨rfl, hk4, hu4⟩
      have HF : Hid (Bk w4 g c R ∧ But g w w4) := ⟨by rw [HD2.out]; simpa using hk4, hu4⟩
      clear hk4 hu4 HD2
      go_wp2_with fail
      exact bodyPost_end (results_none Tryd.results55 _ _ _) rfl ⟨rfl, HF.out⟩
    · have q1 : ((S : Int) == 0) = false := by simp; omega
      have HF : Hid (Bk w3 g c R ∧ But g w w3) := ⟨by rw [HD2.out, if_neg h1]; exact HK3.out, HU3.out⟩
      clear h1 HD2
      go_wp2_with fail
      exact bodyPost_end (results_none Tryd.results55 _ _ _) rfl ⟨rfl, HF.out⟩

theorem turnMessage_any (g o n c2 c : Nat) (X : List Nat) (f t : Tu) (w : World) (hB : Bk w g c X) (hX : ∀ x ∈ X, x < 256) (ha : f.Ok) (ht : t.Ok) (hn : 8 ≤ n) (hc : n ≤ c2) (ho : o + n ≤ X.length) (hp : f.p = 17 ∨ f.p = 6 ∨ f.p = 1) :
    Calls Tryd.prog 36 #[.slice (some ⟨g, o, none⟩) n c2, .agg f.cells, .agg t.cells] w fun e w' => e = .returned (.tuple #[]) ∧ Bk w' g c (tmL f.p o n X f t) ∧ But g w w' := by
  obtain ⟨w0, hw0, hb0, r1, r2⟩ := box2 w f.cells t.cells 38 38
  obtain ⟨b, HB⟩ : ∃ b, Hid (b = w.heap.size) := ⟨_, rfl⟩
  have HW0 := hid hw0
  rw [← HB.out] at r1 r2
  have hbl : b + 1 < w0.heap.size := (Array.getElem?_eq_some_iff.1 r2).1
  have hgb : g < b := by rw [HB.out]; exact hB.lt
  have HT : Hid (∀ u, But g w0 u → TuB u b f ∧ TuB u (b + 1) t) := fun u hu => ⟨tub ((hu.block b (by omega) (by omega)).trans r1), tub ((hu.block (b + 1) hbl (by omega)).trans r2)⟩
  have HB0 := hid (hB.below hb0)
  have HBU0 : Hid (But g w w0) := But.of_below hb0
  have ce2 : w0.cell? ⟨b, 2, none⟩ = some (.int .u8 (f.p : Int)) := (tub r1).p
  have HPL := hid (prt_lt (o := o) hX ht)
  have HWP : Hid (∀ u, Below w0.heap.size w0 u → Calls Tryd.prog 54 #[.slice (some ⟨g, o, none⟩) n c2, .agg t.cells] u fun e w' => e = .returned (.tuple #[]) ∧ Bk w' g c (prt X o t) ∧ But g w0 w') := fun u hu =>
    (writePorts_any g o n c2 c X t u (HB0.out.below hu) ht (by omega) hc (by omega)).mono fun e w' ⟨h1, h2, h3⟩ => ⟨h1, h2, (But.of_below hu).trans h3⟩
  have HWA := hid (fun u => wordsOf_any f u ha)
  have HWT := hid (fun u => wordsOf_any t u ht)
  have HDG : Hid (∀ u, Bk u g c (prt X o t) → But g w0 u → Calls Tryd.prog 55 #[.slice (some ⟨g, o + 6, none⟩) (n - 6) (c2 - 6), .agg (wc (wo f)), .agg (wc (wo t))] u fun e w' => e = .returned (.tuple #[]) ∧ Bk w' g c (dgS (prt X o t) (o + 6) ((wo f).zip (wo t))) ∧ But g w w') := fun u hk hu =>
    (turnDg_any g (o + 6) (n - 6) (c2 - 6) c (wo f) (wo t) _ u hk HPL.out (by omega) (by rw [prt_len]; omega) (wo_lt ha) (wo_lt ht) rfl rfl).mono fun e w' ⟨h1, h2, h3⟩ => ⟨h1, h2, (HBU0.out.trans hu).trans h3⟩
  have HSG : Hid (18 ≤ n → ∀ u, Bk u g c (prt X o t) → But g w0 u → Calls Tryd.prog 57 #[.slice (some ⟨g, o + 16, none⟩) (n - 16) (c2 - 16), .agg (wc (wo f)), .agg (wc (wo t))] u fun e w' => e = .returned (.tuple #[]) ∧ Bk w' g c (p16 (prt X o t) (o + 16) (ts (w16 (prt X o t) (o + 16)) ((wo f).zip (wo t)))) ∧ But g w w') := fun h18 u hk hu =>
    (turnSum_any g (o + 16) (n - 16) (c2 - 16) c (wo f) (wo t) _ u hk HPL.out (by omega) (by rw [prt_len]; omega) (wo_lt ha) (wo_lt ht) rfl rfl).mono fun e w' ⟨h1, h2, h3⟩ => ⟨h1, h2, (HBU0.out.trans hu).trans h3⟩
  have HE4 : Hid (∀ u, Below w0.heap.size w0 u → Calls Tryd.prog 58 #[.slice (some ⟨g, o + 4, none⟩) (n - 4) (c2 - 4), .int .u16 (t.sp : Int)] u fun e w' => e = .returned (.tuple #[]) ∧ Bk w' g c (p16 X (o + 4) t.sp) ∧ But g w0 w') := fun u hu =>
    (write16_any g (o + 4) (n - 4) (c2 - 4) c t.sp X u (HB0.out.below hu) (by omega) (by omega) ht.sp).mono fun e w' ⟨h1, h2, h3⟩ => ⟨h1, h2, (But.of_below hu).trans h3⟩
  have HE2 : Hid (∀ u, Bk u g c (p16 X (o + 4) t.sp) → But g w0 u → Calls Tryd.prog 59 #[.slice (some ⟨g, o + 2, none⟩) (n - 2) (c2 - 2), .int .u16 (f.sp : Int), .int .u16 (t.sp : Int)] u fun e w' => e = .returned (.tuple #[]) ∧ Bk w' g c (p16 (p16 X (o + 4) t.sp) (o + 2) (tw (w16 (p16 X (o + 4) t.sp) (o + 2)) f.sp t.sp)) ∧ But g w w') := fun u hk hu =>
    (turnWord_any g (o + 2) (n - 2) (c2 - 2) c f.sp t.sp _ u hk (p16_lt hX ht.sp) (by omega) (by rw [p16_len]; omega) ha.sp ht.sp).mono fun e w' ⟨h1, h2, h3⟩ => ⟨h1, h2, (HBU0.out.trans hu).trans h3⟩
  have HC6 := hid (cutm g o n c2 6 6 rfl (by omega) hc (by omega))
  have HC16 : Hid (18 ≤ n → ∀ u : World, (Instr.sliceAt 32 (.slice (some ⟨g, o, none⟩) n c2) (some (.int .i64 16)) none none).run Tryd.prog u = .ok (.slice (some ⟨g, o + 16, none⟩) (n - 16) (c2 - 16)) u) := fun h => cutm g o n c2 16 16 rfl (by omega) hc (by omega)
  have HC4 := hid (cutm g o n c2 4 4 rfl (by omega) hc (by omega))
  have HC2 := hid (cutm g o n c2 2 2 rfl (by omega) hc (by omega))
  obtain ⟨R, HRR⟩ : ∃ R, Hid (R = tmL f.p o n X f t) := ⟨_, rfl⟩
  have HTM : Hid (R = if f.p = 17 then dgS (prt X o t) (o + 6) ((wo f).zip (wo t)) else if f.p = 6 then (if 18 ≤ n then p16 (prt X o t) (o + 16) (ts (w16 (prt X o t) (o + 16)) ((wo f).zip (wo t))) else prt X o t) else if f.p = 1 then p16 (p16 X (o + 4) t.sp) (o + 2) (tw (w16 (p16 X (o + 4) t.sp) (o + 2)) f.sp t.sp) else X) := by unfold Hid; rw [HRR.out]; rfl
  rw [← HRR.out]
  generalize dgS (prt X o t) (o + 6) ((wo f).zip (wo t)) = R17 at *
  generalize p16 (prt X o t) (o + 16) (ts (w16 (prt X o t) (o + 16)) ((wo f).zip (wo t))) = R6 at *
  generalize prt X o t = R0 at *
  generalize p16 (p16 X (o + 4) t.sp) (o + 2) (tw (w16 (p16 X (o + 4) t.sp) (o + 2)) f.sp t.sp) = R1 at *
  generalize p16 X (o + 4) t.sp = R4 at *
  generalize wc (wo f) = cA at *
  generalize wc (wo t) = cT at *
  have HT0 := hid (HT.out w0 (But.refl _ _))
  have HL0 := hid HT0.out.2.ld
  generalize f.p = p at *
  clear HT0
  clear hw0 r1 r2 hbl hgb hb0 hB hX ha ht hc ho HRR
  rcases hp with rfl | rfl | rfl
  · go_enter Tryd.func36, Tryd.ntmps36
    go_upto_region 1 with fail
    rw [← HW0.out, ← HB.out]
    go_wp2_with (first | (refine wpList_ld 38 ⟨b + 1, 0, none⟩ (.tmp 5) rfl rfl HL0.out rfl ?_) | fail)
    refine (HWP.out w0 (Below.refl _ _)).mono ?_
    rintro _ w1 ⟨rfl, hk1, hu1⟩
    have HK1 := hid hk1
    have HU1 := hid hu1
    clear hk1 hu1
    go_upto_region 4 with fail
    refine wp_region_guarded' 6 (fun i => ([13, 14, 15, 16, 17, 18] : List Tmp).getD i 0) (Vs [.slice (some ⟨g, o, none⟩) n c2, .slice (some ⟨g, o + 6, none⟩) (n - 6) (c2 - 6), .agg f.cells, .agg cA, .agg t.cells, .agg cT]) (fun u => Below w1.heap.size w1 u) (fun _ u u' => Below u.heap.size u u') (by kernel_rfl) (by kernel_rfl) ⟨rfl, rfl, rfl, Nat.le_refl _, fun _ _ => rfl⟩ (fun _ _ _ _ _ _ h _ _ => h) ?_ ?_
    · simp only [List.take_succ_cons, List.take_zero, stepsG]
      refine ⟨?_, ?_, ?_, ?_, ?_, ?_, trivial⟩
      · intro a u vs hI hold hdep
        exact opAt_plain rfl (wp_still (ex_move (.tmp 0) _ rfl (hold 0 (dlM (L := [13, 14, 15, 16, 17, 18]) (by decide)))) rfl rfl hI)
      · intro a u vs hI hold hdep
        exact opAt_plain rfl (wp_still (ex_cut 32 (.tmp 13) (.const (.int .i64 6)) _ _ _ rfl (Vs.dep (hdep ⟨0, .data⟩ (by simp) rfl (by decide)) rfl) rfl (HC6.out u)) rfl rfl hI)
      · intro a u vs hI hold hdep
        exact opAt_plain rfl (wp_still (ex_load _ ⟨b, 0, none⟩ (.tmp 4) _ rfl (hold 4 (dlM (L := [13, 14, 15, 16, 17, 18]) (by decide))) ((HT.out u (HU1.out.trans (But.of_below hI))).1.ld)) rfl rfl hI)
      · intro a u vs hI hold hdep
        have e0 : a.eval (.tmp 15) = .agg f.cells := (Vs.dep (hdep ⟨2, .data⟩ (by simp) rfl (by decide)) rfl)
        refine opAt_plain rfl ?_
        refine wp_call 56 _ _ rfl (enters_of Tryd.func56 (by kernel_rfl) rfl) #[.agg f.cells] (by simp only [List.map_toArray, List.map_cons, List.map_nil, e0]) ?_
        refine (HWA.out u).mono ?_
        rintro _ u' ⟨rfl, hb'⟩
        exact ⟨_, rfl, _, rfl, rfl, hI.trans (hb'.mono hI.size), hb'⟩
      · intro a u vs hI hold hdep
        exact opAt_plain rfl (wp_still (ex_load _ ⟨b + 1, 0, none⟩ (.tmp 5) _ rfl (hold 5 (dlM (L := [13, 14, 15, 16, 17, 18]) (by decide))) ((HT.out u (HU1.out.trans (But.of_below hI))).2.ld)) rfl rfl hI)
      · intro a u vs hI hold hdep
        have e0 : a.eval (.tmp 17) = .agg t.cells := (Vs.dep (hdep ⟨4, .data⟩ (by simp) rfl (by decide)) rfl)
        refine opAt_plain rfl ?_
        refine wp_call 56 _ _ rfl (enters_of Tryd.func56 (by kernel_rfl) rfl) #[.agg t.cells] (by simp only [List.map_toArray, List.map_cons, List.map_nil, e0]) ?_
        refine (HWT.out u).mono ?_
        rintro _ u' ⟨rfl, hb'⟩
        exact ⟨_, rfl, _, rfl, rfl, hI.trans (hb'.mono hI.size), hb'⟩
    intro vs u2 hI hF
    have e0 : vs 0 = .slice (some ⟨g, o, none⟩) n c2 := (Option.some.inj (hF 0 (by decide))).symm
    have e1 : vs 1 = .slice (some ⟨g, o + 6, none⟩) (n - 6) (c2 - 6) := (Option.some.inj (hF 1 (by decide))).symm
    have e2 : vs 2 = .agg f.cells := (Option.some.inj (hF 2 (by decide))).symm
    have e3 : vs 3 = .agg cA := (Option.some.inj (hF 3 (by decide))).symm
    have e4 : vs 4 = .agg t.cells := (Option.some.inj (hF 4 (by decide))).symm
    have e5 : vs 5 = .agg cT := (Option.some.inj (hF 5 (by decide))).symm
    clear hF
    simp only [List.drop_succ_cons, List.drop_zero, puts, List.range, List.range.loop, List.foldr, if_true, List.getD_cons_zero, List.getD_cons_succ, e0, e1, e2, e3, e4, e5, Act.put, List.setIfInBounds_toArray, List.set_cons_zero, List.set_cons_succ]
    clear e0 e1 e2 e3 e4 e5
    have HI := hid hI
    clear hI
    go_wp2_with fail
    refine (HDG.out u2 (HK1.out.below HI.out) (HU1.out.trans (But.of_below HI.out))).mono ?_
    rintro _ w3 ⟨rfl, h1, h2⟩
    have HF : Hid (Bk w3 g c R ∧ But g w w3) := ⟨by rw [HTM.out]; simpa using h1, h2⟩
    clear h1 h2 HTM
    go_wp2_with fail
    exact bodyPost_end (results_none Tryd.results36 _ _ _) rfl ⟨rfl, HF.out⟩
  · go_enter Tryd.func36, Tryd.ntmps36
    go_upto_region 1 with fail
    rw [← HW0.out, ← HB.out]
    go_wp2_with (first | (refine wpList_ld 38 ⟨b + 1, 0, none⟩ (.tmp 5) rfl rfl HL0.out rfl ?_) | fail)
    refine (HWP.out w0 (Below.refl _ _)).mono ?_
    rintro _ w1 ⟨rfl, hk1, hu1⟩
    have HK1 := hid hk1
    have HU1 := hid hu1
    clear hk1 hu1
    by_cases h18 : 18 ≤ n
    · have h18' : (18 : Int) ≤ (n : Int) := by omega
      have HC16' := hid (HC16.out h18)
      have HSG' := hid (HSG.out h18)
      have H18 := hid h18
      clear h18
      go_upto_region 8 with fail
      refine wp_region_guarded' 6 (fun i => ([28, 29, 30, 31, 32, 33] : List Tmp).getD i 0) (Vs [.slice (some ⟨g, o, none⟩) n c2, .slice (some ⟨g, o + 16, none⟩) (n - 16) (c2 - 16), .agg f.cells, .agg cA, .agg t.cells, .agg cT]) (fun u => Below w1.heap.size w1 u) (fun _ u u' => Below u.heap.size u u') (by kernel_rfl) (by kernel_rfl) ⟨rfl, rfl, rfl, Nat.le_refl _, fun _ _ => rfl⟩ (fun _ _ _ _ _ _ h _ _ => h) ?_ ?_
      · simp only [List.take_succ_cons, List.take_zero, stepsG]
        refine ⟨?_, ?_, ?_, ?_, ?_, ?_, trivial⟩
        · intro a u vs hI hold hdep
          exact opAt_plain rfl (wp_still (ex_move (.tmp 0) _ rfl (hold 0 (dlM (L := [28, 29, 30, 31, 32, 33]) (by decide)))) rfl rfl hI)
        · intro a u vs hI hold hdep
          exact opAt_plain rfl (wp_still (ex_cut 32 (.tmp 28) (.const (.int .i64 16)) _ _ _ rfl (Vs.dep (hdep ⟨0, .data⟩ (by simp) rfl (by decide)) rfl) rfl (HC16'.out u)) rfl rfl hI)
        · intro a u vs hI hold hdep
          exact opAt_plain rfl (wp_still (ex_load _ ⟨b, 0, none⟩ (.tmp 4) _ rfl (hold 4 (dlM (L := [28, 29, 30, 31, 32, 33]) (by decide))) ((HT.out u (HU1.out.trans (But.of_below hI))).1.ld)) rfl rfl hI)
        · intro a u vs hI hold hdep
          have e0 : a.eval (.tmp 30) = .agg f.cells := (Vs.dep (hdep ⟨2, .data⟩ (by simp) rfl (by decide)) rfl)
          refine opAt_plain rfl ?_
          refine wp_call 56 _ _ rfl (enters_of Tryd.func56 (by kernel_rfl) rfl) #[.agg f.cells] (by simp only [List.map_toArray, List.map_cons, List.map_nil, e0]) ?_
          refine (HWA.out u).mono ?_
          rintro _ u' ⟨rfl, hb'⟩
          exact ⟨_, rfl, _, rfl, rfl, hI.trans (hb'.mono hI.size), hb'⟩
        · intro a u vs hI hold hdep
          exact opAt_plain rfl (wp_still (ex_load _ ⟨b + 1, 0, none⟩ (.tmp 5) _ rfl (hold 5 (dlM (L := [28, 29, 30, 31, 32, 33]) (by decide))) ((HT.out u (HU1.out.trans (But.of_below hI))).2.ld)) rfl rfl hI)
        · intro a u vs hI hold hdep
          have e0 : a.eval (.tmp 32) = .agg t.cells := (Vs.dep (hdep ⟨4, .data⟩ (by simp) rfl (by decide)) rfl)
          refine opAt_plain rfl ?_
          refine wp_call 56 _ _ rfl (enters_of Tryd.func56 (by kernel_rfl) rfl) #[.agg t.cells] (by simp only [List.map_toArray, List.map_cons, List.map_nil, e0]) ?_
          refine (HWT.out u).mono ?_
          rintro _ u' ⟨rfl, hb'⟩
          exact ⟨_, rfl, _, rfl, rfl, hI.trans (hb'.mono hI.size), hb'⟩
      intro vs u2 hI hF
      have e0 : vs 0 = .slice (some ⟨g, o, none⟩) n c2 := (Option.some.inj (hF 0 (by decide))).symm
      have e1 : vs 1 = .slice (some ⟨g, o + 16, none⟩) (n - 16) (c2 - 16) := (Option.some.inj (hF 1 (by decide))).symm
      have e2 : vs 2 = .agg f.cells := (Option.some.inj (hF 2 (by decide))).symm
      have e3 : vs 3 = .agg cA := (Option.some.inj (hF 3 (by decide))).symm
      have e4 : vs 4 = .agg t.cells := (Option.some.inj (hF 4 (by decide))).symm
      have e5 : vs 5 = .agg cT := (Option.some.inj (hF 5 (by decide))).symm
      clear hF
      simp only [List.drop_succ_cons, List.drop_zero, puts, List.range, List.range.loop, List.foldr, if_true, List.getD_cons_zero, List.getD_cons_succ, e0, e1, e2, e3, e4, e5, Act.put, List.setIfInBounds_toArray, List.set_cons_zero, List.set_cons_succ]
      clear e0 e1 e2 e3 e4 e5
      have HI := hid hI
      clear hI
      go_wp2_with fail
      refine (HSG'.out u2 (HK1.out.below HI.out) (HU1.out.trans (But.of_below HI.out))).mono ?_
      rintro _ w3 ⟨rfl, h1, h2⟩
      have HF : Hid (Bk w3 g c R ∧ But g w w3) := ⟨by rw [HTM.out]; simpa [H18.out] using h1, h2⟩
      clear h1 h2 HTM
      go_wp2_with fail
      exact bodyPost_end (results_none Tryd.results36 _ _ _) rfl ⟨rfl, HF.out⟩
    · have h18' : ¬ (18 : Int) ≤ (n : Int) := by omega
      have HF : Hid (Bk w1 g c R ∧ But g w w1) := ⟨by rw [HTM.out]; simpa [h18] using HK1.out, HBU0.out.trans HU1.out⟩
      clear h18 HTM
      go_wp2_with fail
      exact bodyPost_end (results_none Tryd.results36 _ _ _) rfl ⟨rfl, HF.out⟩
  · go_enter Tryd.func36, Tryd.ntmps36
    go_upto_region 1 with fail
    rw [← HW0.out, ← HB.out]
    go_upto_region 10 with fail
    refine wp_region_guarded' 4 (fun i => ([37, 38, 39, 40] : List Tmp).getD i 0) (Vs [.slice (some ⟨g, o, none⟩) n c2, .slice (some ⟨g, o + 4, none⟩) (n - 4) (c2 - 4), .pointer (some ⟨b + 1, 3, none⟩), .int .u16 (t.sp : Int)]) (fun u => Below w0.heap.size w0 u) (fun _ u u' => Below u.heap.size u u') (by kernel_rfl) (by kernel_rfl) ⟨rfl, rfl, rfl, Nat.le_refl _, fun _ _ => rfl⟩ (fun _ _ _ _ _ _ h _ _ => h) ?_ ?_
    · simp only [List.take_succ_cons, List.take_zero, stepsG]
      refine ⟨?_, ?_, ?_, ?_, trivial⟩
      · intro a u vs hI hold hdep
        exact opAt_plain rfl (wp_still (ex_move (.tmp 0) _ rfl (hold 0 (dlM (L := [37, 38, 39, 40]) (by decide)))) rfl rfl hI)
      · intro a u vs hI hold hdep
        exact opAt_plain rfl (wp_still (ex_cut 32 (.tmp 37) (.const (.int .i64 4)) _ _ _ rfl (Vs.dep (hdep ⟨0, .data⟩ (by simp) rfl (by decide)) rfl) rfl (HC4.out u)) rfl rfl hI)
      · intro a u vs hI hold hdep
        exact opAt_plain rfl (wp_still (ex_field _ ⟨b + 1, 0, none⟩ (.tmp 5) 3 _ rfl (hold 5 (dlM (L := [37, 38, 39, 40]) (by decide))) ((nt_fl (b + 1) u).1)) rfl rfl hI)
      · intro a u vs hI hold hdep
        exact opAt_plain rfl (wp_still (ex_load _ ⟨b + 1, 3, none⟩ (.tmp 39) _ rfl (Vs.dep (hdep ⟨2, .data⟩ (by simp) rfl (by decide)) rfl) (ldP (HT.out u (But.of_below hI)).2.sp)) rfl rfl hI)
    intro vs u2 hI hF
    have e0 : vs 0 = .slice (some ⟨g, o, none⟩) n c2 := (Option.some.inj (hF 0 (by decide))).symm
    have e1 : vs 1 = .slice (some ⟨g, o + 4, none⟩) (n - 4) (c2 - 4) := (Option.some.inj (hF 1 (by decide))).symm
    have e2 : vs 2 = .pointer (some ⟨b + 1, 3, none⟩) := (Option.some.inj (hF 2 (by decide))).symm
    have e3 : vs 3 = .int .u16 (t.sp : Int) := (Option.some.inj (hF 3 (by decide))).symm
    clear hF
    simp only [List.drop_succ_cons, List.drop_zero, puts, List.range, List.range.loop, List.foldr, if_true, List.getD_cons_zero, List.getD_cons_succ, e0, e1, e2, e3, Act.put, List.setIfInBounds_toArray, List.set_cons_zero, List.set_cons_succ]
    clear e0 e1 e2 e3
    have HI := hid hI
    clear hI
    go_wp2_with fail
    refine (HE4.out u2 HI.out).mono ?_
    rintro _ w1 ⟨rfl, hk1, hu1⟩
    have HK1 := hid hk1
    have HU1 := hid hu1
    clear hk1 hu1
    go_upto_region 11 with fail
    refine wp_region_guarded' 6 (fun i => ([42, 43, 44, 45, 46, 47] : List Tmp).getD i 0) (Vs [.slice (some ⟨g, o, none⟩) n c2, .slice (some ⟨g, o + 2, none⟩) (n - 2) (c2 - 2), .pointer (some ⟨b, 3, none⟩), .int .u16 (f.sp : Int), .pointer (some ⟨b + 1, 3, none⟩), .int .u16 (t.sp : Int)]) (fun u => Below w1.heap.size w1 u) (fun _ u u' => Below u.heap.size u u') (by kernel_rfl) (by kernel_rfl) ⟨rfl, rfl, rfl, Nat.le_refl _, fun _ _ => rfl⟩ (fun _ _ _ _ _ _ h _ _ => h) ?_ ?_
    · simp only [List.take_succ_cons, List.take_zero, stepsG]
      refine ⟨?_, ?_, ?_, ?_, ?_, ?_, trivial⟩
      · intro a u vs hI hold hdep
        exact opAt_plain rfl (wp_still (ex_move (.tmp 0) _ rfl (hold 0 (dlM (L := [42, 43, 44, 45, 46, 47]) (by decide)))) rfl rfl hI)
      · intro a u vs hI hold hdep
        exact opAt_plain rfl (wp_still (ex_cut 32 (.tmp 42) (.const (.int .i64 2)) _ _ _ rfl (Vs.dep (hdep ⟨0, .data⟩ (by simp) rfl (by decide)) rfl) rfl (HC2.out u)) rfl rfl hI)
      · intro a u vs hI hold hdep
        exact opAt_plain rfl (wp_still (ex_field _ ⟨b, 0, none⟩ (.tmp 4) 3 _ rfl (hold 4 (dlM (L := [42, 43, 44, 45, 46, 47]) (by decide))) ((nt_fl b u).1)) rfl rfl hI)
      · intro a u vs hI hold hdep
        exact opAt_plain rfl (wp_still (ex_load _ ⟨b, 3, none⟩ (.tmp 44) _ rfl (Vs.dep (hdep ⟨2, .data⟩ (by simp) rfl (by decide)) rfl) (ldP (HT.out u (HU1.out.trans (But.of_below hI))).1.sp)) rfl rfl hI)
      · intro a u vs hI hold hdep
        exact opAt_plain rfl (wp_still (ex_field _ ⟨b + 1, 0, none⟩ (.tmp 5) 3 _ rfl (hold 5 (dlM (L := [42, 43, 44, 45, 46, 47]) (by decide))) ((nt_fl (b + 1) u).1)) rfl rfl hI)
      · intro a u vs hI hold hdep
        exact opAt_plain rfl (wp_still (ex_load _ ⟨b + 1, 3, none⟩ (.tmp 46) _ rfl (Vs.dep (hdep ⟨4, .data⟩ (by simp) rfl (by decide)) rfl) (ldP (HT.out u (HU1.out.trans (But.of_below hI))).2.sp)) rfl rfl hI)
    intro vs u3 hI hF
    have e0 : vs 0 = .slice (some ⟨g, o, none⟩) n c2 := (Option.some.inj (hF 0 (by decide))).symm
    have e1 : vs 1 = .slice (some ⟨g, o + 2, none⟩) (n - 2) (c2 - 2) := (Option.some.inj (hF 1 (by decide))).symm
    have e2 : vs 2 = .pointer (some ⟨b, 3, none⟩) := (Option.some.inj (hF 2 (by decide))).symm
    have e3 : vs 3 = .int .u16 (f.sp : Int) := (Option.some.inj (hF 3 (by decide))).symm
    have e4 : vs 4 = .pointer (some ⟨b + 1, 3, none⟩) := (Option.some.inj (hF 4 (by decide))).symm
    have e5 : vs 5 = .int .u16 (t.sp : Int) := (Option.some.inj (hF 5 (by decide))).symm
    clear hF
    simp only [List.drop_succ_cons, List.drop_zero, puts, List.range, List.range.loop, List.foldr, if_true, List.getD_cons_zero, List.getD_cons_succ, e0, e1, e2, e3, e4, e5, Act.put, List.setIfInBounds_toArray, List.set_cons_zero, List.set_cons_succ]
    clear e0 e1 e2 e3 e4 e5
    have HI3 := hid hI
    clear hI
    go_wp2_with fail
    refine (HE2.out u3 (HK1.out.below HI3.out) (HU1.out.trans (But.of_below HI3.out))).mono ?_
    rintro _ w3 ⟨rfl, h1, h2⟩
    have HF : Hid (Bk w3 g c R ∧ But g w w3) := ⟨by rw [HTM.out]; simpa using h1, h2⟩
    clear h1 h2 HTM
    go_wp2_with fail
    exact bodyPost_end (results_none Tryd.results36 _ _ _) rfl ⟨rfl, HF.out⟩
end Go.Proofs.YthpokoiclfbddaaDoor.Nq
