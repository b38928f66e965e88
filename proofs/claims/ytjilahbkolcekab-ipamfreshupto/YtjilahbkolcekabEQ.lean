/-
  The law's plays: a step on both.
-/
import Derived.Test.YtjilahbkolcekabEP
namespace Go.Proofs.Ytjilahbkolcekab
open Go.ChangeShapes Go.WideShapes Go.ChangeAt Go.RowKit Go.Maps Tri
set_option maxHeartbeats 4000000
set_option maxRecDepth 100000

/-- Both hold the same. -/
structure Pr (w : World) (pb bn ba rb : Nat) (vp : Value) (s : Ist) : Prop where
  ip : IpAt w pb bn ba s
  rf : RfAt w rb vp s

/-- Its blocks. -/
def fpP (pb bn ba rb : Nat) (vp : Value) (k : Nat) : Prop := fpI pb bn ba k ∨ fpR rb vp k

section
variable {w w' : World} {pb bn ba rb : Nat} {vp : Value} {s : Ist}
theorem sepIR (hp : IpAt w pb bn ba s) {s2 : Ist} (hr : RfAt w rb vp s2) : ∀ k, fpI pb bn ba k → ¬ fpR rb vp k := by
  rintro k (rfl | rfl | rfl) (e | e)
  · have := hp.row
    rw [e, hr.row] at this
    simp at this
  · obtain ⟨cs, h1⟩ := hr.own.kind e
    have := hp.row
    rw [h1] at this
    simp at this
  · obtain ⟨es, c, h1⟩ := hp.mn.isMap
    rw [e, hr.row] at h1
    cases h1
  · obtain ⟨es, c, h1⟩ := hp.mn.isMap
    obtain ⟨cs, h2⟩ := hr.own.kind e
    rw [h1] at h2
    cases h2
  · obtain ⟨es, c, h1⟩ := hp.ma.isMap
    rw [e, hr.row] at h1
    cases h1
  · obtain ⟨es, c, h1⟩ := hp.ma.isMap
    obtain ⟨cs, h2⟩ := hr.own.kind e
    rw [h1] at h2
    cases h2

theorem Pr.below (h : Pr w pb bn ba rb vp s) (hb : Below w.heap.size w w') : Pr w' pb bn ba rb vp s := ⟨h.ip.below hb, h.rf.below hb⟩
theorem Pr.keeps {S : Nat → Prop} (h : Pr w pb bn ba rb vp s) (hk : Keeps S w w') (hn : ∀ k, fpP pb bn ba rb vp k → ¬ S k) : Pr w' pb bn ba rb vp s := ⟨h.ip.keeps hk fun k hk => hn k (.inl hk), h.rf.keeps hk fun k hk => hn k (.inr hk)⟩
theorem Pr.lt (h : Pr w pb bn ba rb vp s) {k : Nat} (hk : fpP pb bn ba rb vp k) : k < w.heap.size := by
  rcases hk with (rfl | rfl | rfl) | hk
  · exact h.ip.lt.1
  · exact h.ip.lt.2.1
  · exact h.ip.lt.2.2
  · exact h.rf.lt hk

/-- What a step leaves. -/
def Pd (w : World) (pb bn ba rb : Nat) (vp : Value) (W : World) (s' : Ist) : Prop :=
  ∃ vp', Pr W pb bn ba rb vp' s' ∧ NwB vp vp' w.heap.size ∧ Keeps (fpP pb bn ba rb vp) w W

theorem Pd.same (h : Pr w pb bn ba rb vp s) (hb : Below w.heap.size w w') : Pd w pb bn ba rb vp w' s := ⟨vp, h.below hb, fun _ hg => .inl hg, Keeps.of hb⟩
theorem Pd.both {u : World} {s' : Ist} {vp' : Value} (h : Pr w pb bn ba rb vp s) (h1 : IpAt u pb bn ba s') (k1 : Keeps (fpI pb bn ba) w u) (h2 : RTurn u w' rb vp s' vp') : Pd w pb bn ba rb vp w' s' := by
  have hr : RfAt u rb vp s := h.rf.keeps k1 fun k h3 h4 => sepIR h.ip h.rf k h4 h3
  refine ⟨vp', ⟨h1.keeps h2.keeps fun k h3 h4 => sepIR h1 hr k h3 h4, h2.ref⟩, fun g hg => (h2.new g hg).imp id fun h => Nat.le_trans k1.size h, ?_⟩
  exact (k1.mono fun k _ h => .inl h).trans (h2.keeps.mono fun k _ h => .inr h)
theorem Pd.from {u : World} {s' : Ist} (hb : Below w.heap.size w u) (h : Pd u pb bn ba rb vp w' s') : Pd w pb bn ba rb vp w' s' := by
  obtain ⟨vp', h1, h2, h3⟩ := h
  exact ⟨vp', h1, fun g hg => (h2 g hg).imp id fun h => Nat.le_trans hb.size h, (Keeps.of hb).trans h3⟩
theorem Pd.more {u : World} {s' : Ist} (h : Pd w pb bn ba rb vp u s') (hb : Below u.heap.size u w') : Pd w pb bn ba rb vp w' s' := by
  obtain ⟨vp', h1, h2, h3⟩ := h
  exact ⟨vp', h1.below hb, h2, h3.trans (Keeps.of hb)⟩
end

/-- A step. -/
structure Stp where
  k : Int
  n : ByteArray
  a : Nat
def Stp.cells (o : Stp) : Array Value := #[.int .i64 o.k, .string o.n, .int .u32 (o.a : Int)]

/-- What a step leaves of what is held. -/
def Ist.play (s : Ist) (o : Stp) : Ist := if o.k = 1 then (s.addR o.n).2.2 else if o.k = 2 then (s.delR o.n).2.2 else s

theorem plays_any (o : Stp) (w : World) (pb bn ba rb : Nat) (vp : Value) (s : Ist) (h : Pr w pb bn ba rb vp s) (hn : o.n.size ≤ maxLen) (ha : o.a < 4294967296) :
    Calls Try.prog 13 #[.pointer (some ⟨pb, 0, none⟩), .pointer (some ⟨rb, 0, none⟩), .agg o.cells] w fun e W => e = .returned (.bool true) ∧ Pd w pb bn ba rb vp W (s.play o) := by
  obtain ⟨kk, nm, ad⟩ := o
  unfold Stp.cells
  simp only at hn ha ⊢
  obtain ⟨w0, HW0⟩ : ∃ w0, Hid (w0 = w.alloc (.cells #[.int .i64 kk, .string nm, .int .u32 (ad : Int)] 38)) := ⟨_, rfl⟩
  have hb0 : Below w.heap.size w w0 := by rw [HW0.out]; exact (Below.refl _ _).alloc (Nat.le_refl _) _
  have r0 : w0.heap[w.heap.size]? = some (.cells #[.int .i64 kk, .string nm, .int .u32 (ad : Int)] 38 (0, 0)) := by rw [HW0.out]; exact heap_alloc_new w _
  obtain ⟨ob, HOB⟩ : ∃ ob, Hid (ob = w.heap.size) := ⟨_, rfl⟩
  rw [← HOB.out] at r0
  have R0 := hid r0
  have HCO : Hid (∀ u : World, u.heap[ob]? = some (.cells #[.int .i64 kk, .string nm, .int .u32 (ad : Int)] 38 (0, 0)) → u.cell? ⟨ob, 0, none⟩ = some (.int .i64 kk) ∧ u.cell? ⟨ob, 1, none⟩ = some (.string nm) ∧ u.cell? ⟨ob, 2, none⟩ = some (.int .u32 (ad : Int))) := fun u hr => by
    refine ⟨?_, ?_, ?_⟩ <;> (rw [cell_of_row _ _ _ _ _ _ hr]; rfl)
  have HB0 := hid hb0
  have HP := hid (h.below hb0)
  have HOBL : Hid (∀ k, fpP pb bn ba rb vp k → k < ob) := fun k hk => by rw [HOB.out]; exact h.lt hk
  have HOW : Hid (ob < w0.heap.size) := (Array.getElem?_eq_some_iff.1 r0).1
  have HPD : Hid (∀ (W : World) (s' : Ist), Pd w0 pb bn ba rb vp W s' → Pd w pb bn ba rb vp W s') := fun W s' h => Pd.from HB0.out h
  obtain ⟨S', HS'⟩ : ∃ S', Hid (S' = s.play ⟨kk, nm, ad⟩) := ⟨_, rfl⟩
  rw [← HS'.out]
  obtain ⟨c0, c1, c2⟩ := HCO.out w0 r0
  clear h hb0 r0
  go_enter Try.func13, Try.ntmps13
  go_upto_region 1 with fail
  rw [← HW0.out, ← HOB.out]
  go_upto_region 2 with fail
  clear c0
  by_cases k1 : kk = 1
  · subst k1
    have HSE : Hid (S' = (s.addR nm).2.2) := by unfold Hid; rw [HS'.out]; rfl
    as_aux_lemma =>
      have HA := hid (add_any w0 pb bn ba s nm HP.out.ip hn)
      go_wp2_with fail
      refine HA.out.mono ?_
      rintro _ w1 ⟨rfl, hi1, hk1⟩
      have hr1 : RfAt w1 rb vp s := HP.out.rf.keeps hk1 fun k h3 h4 => sepIR HP.out.ip HP.out.rf k h4 h3
      have R1 := (hk1.block ob HOW.out (fun e => by have := HOBL.out ob (.inl e); omega)).trans R0.out
      obtain ⟨-, d1, -⟩ := HCO.out w1 R1
      have HA2 := hid (addRef_any w1 rb vp s nm hr1 hn)
      have HI1 := hid hi1
      have HK1 := hid hk1
      clear c1 c2 HA hi1 hk1 hr1 R1
      generalize s.addR nm = A at *
      obtain ⟨A1, A2, A3⟩ := A
      simp only at HA2 HI1 HSE ⊢
      go_wp2_with fail
      refine HA2.out.mono ?_
      rintro _ w2 ⟨rfl, vp', ht⟩
      have HFIN := hid (HPD.out w2 _ (Pd.both HP.out HI1.out HK1.out ht))
      clear d1 HA2 ht
      go_wp2_with fail
      go_ret
      rw [HSE.out]
      exact ⟨rfl, HFIN.out⟩
  · by_cases k2 : kk = 2
    · subst k2
      have HSE : Hid (S' = (s.delR nm).2.2) := by unfold Hid; rw [HS'.out]; rfl
      as_aux_lemma =>
        have HA := hid (del_any w0 pb bn ba s nm HP.out.ip hn)
        go_wp2_with fail
        refine HA.out.mono ?_
        rintro _ w1 ⟨rfl, hi1, hk1⟩
        have hr1 : RfAt w1 rb vp s := HP.out.rf.keeps hk1 fun k h3 h4 => sepIR HP.out.ip HP.out.rf k h4 h3
        have R1 := (hk1.block ob HOW.out (fun e => by have := HOBL.out ob (.inl e); omega)).trans R0.out
        obtain ⟨-, d1, -⟩ := HCO.out w1 R1
        have HA2 := hid (delR_any w1 rb vp s nm hr1)
        have HI1 := hid hi1
        have HK1 := hid hk1
        clear c1 c2 HA hi1 hk1 hr1 R1
        generalize s.delR nm = A at *
        obtain ⟨A1, A2, A3⟩ := A
        simp only at HA2 HI1 HSE ⊢
        go_wp2_with fail
        refine HA2.out.mono ?_
        rintro _ w2 ⟨rfl, vp', ht⟩
        have HFIN := hid (HPD.out w2 _ (Pd.both HP.out HI1.out HK1.out ht))
        clear d1 HA2 ht
        go_wp2_with fail
        go_ret
        rw [HSE.out]
        exact ⟨rfl, HFIN.out⟩
    · have HSE : Hid (S' = s) := by unfold Hid; rw [HS'.out]; unfold Ist.play; rw [if_neg k1, if_neg k2]
      have q1 : (kk == 1) = false := by simp [k1]
      have q2 : (kk == 2) = false := by simp [k2]
      by_cases k3 : kk = 3
      · subst k3
        as_aux_lemma =>
          have HA := hid (find_any w0 pb bn ba s nm HP.out.ip hn)
          have HA2 := hid (findR_any w0 rb vp s nm HP.out.rf)
          have HFIN := hid (HPD.out w0 _ (Pd.same HP.out (Below.refl _ _)))
          generalize s.fnA nm = A at *
          generalize s.fnE nm = E at *
          go_wp2_with fail
          refine HA.out.mono ?_
          rintro _ _ ⟨rfl, ew⟩
          obtain rfl := ew.symm
          clear ew HA
          go_wp2_with fail
          refine HA2.out.mono ?_
          rintro _ _ ⟨rfl, ew⟩
          obtain rfl := ew.symm
          clear ew HA2
          go_wp2_with fail
          go_ret
          rw [HSE.out]
          exact ⟨rfl, HFIN.out⟩
      · have q3 : (kk == 3) = false := by simp [k3]
        by_cases k4 : kk = 4
        · subst k4
          as_aux_lemma =>
            have HA := hid (owner_any w0 pb bn ba s ad HP.out.ip ha)
            go_wp2_with fail
            refine HA.out.mono ?_
            rintro _ w1 ⟨rfl, hb1⟩
            have HP1 := hid (HP.out.below hb1)
            obtain ⟨-, -, d2⟩ := HCO.out w1 (below_keeps hb1 R0.out HOW.out)
            have HA2 := hid (ownerR_any w1 rb vp s ad HP1.out.rf ha)
            have HB1 := hid hb1
            clear c1 c2 HA hb1
            generalize s.owN ad = A at *
            generalize s.owE ad = E at *
            go_wp2_with fail
            refine HA2.out.mono ?_
            rintro _ w2 ⟨rfl, hb2⟩
            have HFIN := hid (HPD.out w2 _ (Pd.same HP.out (HB1.out.trans (hb2.mono HB1.out.size))))
            clear d2 HA2 hb2
            go_wp2_with fail
            go_ret
            rw [HSE.out]
            exact ⟨rfl, HFIN.out⟩
        · have q4 : (kk == 4) = false := by simp [k4]
          by_cases k5 : kk = 5
          · subst k5
            as_aux_lemma =>
              have HA := hid (list_any w0 pb bn ba s HP.out.ip)
              clear c1 c2
              go_wp2_with fail
              refine HA.out.mono ?_
              rintro _ w1 ⟨v1, L1, rfl, ho1, hs1, hb1⟩
              have HP1 := hid (HP.out.below hb1)
              have HA2 := hid (listR_any w1 rb vp s HP1.out.rf)
              have HB1 := hid hb1
              have HO1 := hid ho1
              have HS1 := hid hs1
              clear HA hb1 ho1 hs1
              go_wp2_with fail
              refine HA2.out.mono ?_
              rintro _ w2 ⟨v2, L2, rfl, ho2, hs2, hb2⟩
              have hll : L2 = L1 := Srt.eq hs2 HS1.out
              subst hll
              have hlen : L2.length ≤ 1024 := by rw [hs2.1.length_eq]; exact HP.out.ip.ok.le
              have HA3 := hid (pods_any w2 _ _ v1 v2 L2 (HO1.out.below hb2) ho2 hlen)
              have HB2 := hid (HB1.out.trans (hb2.mono HB1.out.size))
              clear HA2 ho2 hs2 hb2 hlen
              go_wp2_with fail
              refine HA3.out.mono ?_
              rintro _ w3 ⟨rfl, hb3⟩
              have HFIN := hid (HPD.out w3 _ (Pd.same HP.out (HB2.out.trans (hb3.mono HB2.out.size))))
              clear HA3 hb3
              go_wp2_with fail
              go_ret
              rw [HSE.out]
              exact ⟨rfl, HFIN.out⟩
          · have q5 : (kk == 5) = false := by simp [k5]
            by_cases k6 : kk = 6
            · subst k6
              as_aux_lemma =>
                have HA := hid (gateway_any w0 pb bn ba s HP.out.ip)
                have HA2 := hid (gatewayR_any w0 rb vp s HP.out.rf)
                have HFIN := hid (HPD.out w0 _ (Pd.same HP.out (Below.refl _ _)))
                generalize s.b + 1 = A at *
                clear c1 c2
                go_wp2_with fail
                refine HA.out.mono ?_
                rintro _ _ ⟨rfl, ew⟩
                obtain rfl := ew.symm
                clear ew HA
                go_wp2_with fail
                refine HA2.out.mono ?_
                rintro _ _ ⟨rfl, ew⟩
                obtain rfl := ew.symm
                clear ew HA2
                go_wp2_with fail
                go_ret
                rw [HSE.out]
                exact ⟨rfl, HFIN.out⟩
            · have q6 : (kk == 6) = false := by simp [k6]
              have HFIN := hid (HPD.out w0 _ (Pd.same HP.out (Below.refl _ _)))
              clear c1 c2
              go_wp2_with fail
              go_ret
              rw [HSE.out]
              exact ⟨rfl, HFIN.out⟩
end Go.Proofs.Ytjilahbkolcekab
