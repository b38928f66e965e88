/-
  The reference: Gateway, New, Named, Find, Owner.
-/
import Derived.Test.YtjilahbkolcekabEF
namespace Go.Proofs.Ytjilahbkolcekab
open Go.ChangeShapes Go.WideShapes Go.ChangeAt Go.RowKit Go.Maps Tri
set_option maxHeartbeats 2000000
set_option maxRecDepth 100000

theorem gatewayR_any (w : World) (rb : Nat) (vp : Value) (s : Ist) (h : RfAt w rb vp s) :
    Calls Try.prog 38 #[.pointer (some ⟨rb, 0, none⟩)] w fun e w' => e = .returned (.int .u32 ((s.b + 1 : Nat) : Int)) ∧ w' = w := by
  obtain ⟨c0, -⟩ := h.cells
  have h3 : s.b + 1 < 4294967296 := by have h1 := h.ok.be; have h2 := h.ok.z4; omega
  generalize s.b = b at *
  clear h
  go_enter Try.func38, Try.ntmps38
  go_wp2_with fail
  go_ret
  exact ⟨ret_int (by omega), rfl⟩

/-- What the reference's New leaves. -/
def NwR (x : Nat) (y : Int) (w : World) (e : Ending) (w' : World) : Prop :=
  (nwB x y = false ∧ e = .returned (.tuple #[.pointer none, .int .i64 151]) ∧ Below w.heap.size w w') ∨
  (nwB x y = true ∧ ∃ rb, e = .returned (.tuple #[.pointer (some ⟨rb, 0, none⟩), .int .i64 0]) ∧ RfAt w' rb (.slice none 0 0) (Ist.new x y) ∧ w.heap.size ≤ rb ∧ Below w.heap.size w w')

theorem newR_any (x : Nat) (y : Int) (w : World) (hx : x < 4294967296) :
    Calls Try.prog 28 #[.agg #[.int .u32 (x : Int), .int .i64 y]] w (NwR x y w) := by
  obtain ⟨wa, HWA⟩ : ∃ wa, Hid (wa = w.alloc (.cells #[.int .u32 (x : Int), .int .i64 y] 25)) := ⟨_, rfl⟩
  have HB0 : Hid (Below w.heap.size w wa) := by unfold Hid; rw [HWA.out]; exact (Below.refl _ _).alloc (Nat.le_refl _) _
  have R1 : Hid (wa.heap[w.heap.size]? = some (.cells #[.int .u32 (x : Int), .int .i64 y] 25)) := by unfold Hid; rw [HWA.out]; exact heap_alloc_new w _
  obtain ⟨q0, q1⟩ := Beh.two R1.out
  have c0 := q0 ⟨wa, Below.refl _ _⟩
  have c1 := q1 ⟨wa, Below.refl _ _⟩
  simp only at c0 c1
  clear q0 q1
  have HF : nwB x y = false → Hid (NwR x y w (.returned (.tuple #[.pointer none, .int .i64 151])) wa) := fun h => .inl ⟨h, rfl, HB0.out⟩
  by_cases h1 : y < 1
  · have HFF := HF (by unfold nwB; rw [decide_eq_false_iff_not]; omega)
    clear HF
    go_enter Try.func28, Try.ntmps28
    go_upto_region 1 with fail
    rw [← HWA.out]
    go_wp2_with fail
    go_ret2
    exact HFF.out
  · by_cases h30 : 30 < y
    · have HFF := HF (by unfold nwB; rw [decide_eq_false_iff_not]; omega)
      clear HF
      go_enter Try.func28, Try.ntmps28
      go_upto_region 1 with fail
      rw [← HWA.out]
      go_wp2_with fail
      go_ret2
      exact HFF.out
    · obtain ⟨n, rfl⟩ : ∃ n : Nat, y = (n : Int) := ⟨y.toNat, by omega⟩
      have hn1 : 1 ≤ n := by omega
      have hn30 : n ≤ 30 := by omega
      obtain ⟨z, HZ⟩ : ∃ z, Hid (z = 2 ^ (32 - n)) := ⟨2 ^ (32 - n), hid rfl⟩
      have HZP : Hid (4 ≤ z ∧ z ≤ 2147483648) := by unfold Hid; rw [HZ.out]; exact ⟨pow_lo hn30, pow_hi hn1⟩
      go_enter Try.func28, Try.ntmps28
      go_upto_region 1 with fail
      rw [← HWA.out]
      go_upto_region 5 with fail
      go_loopw [4, 5] (fun a b wr => ∃ (k p : Nat), b = .int .i64 (k : Int) ∧ a = .int .i64 (p : Int) ∧ n ≤ k ∧ k ≤ 32 ∧ p ≤ 4294967296 ∧ Hid (p = 2 ^ (k - n)) ∧ wr = wa) (fun _ b _ => 32 - (intOf b).toNat)
      case atStart => exact ⟨n, 1, rfl, rfl, Nat.le_refl _, by omega, by decide, hid (by simp), rfl⟩
      case round =>
        obtain ⟨k, p, rfl, rfl, k1, k2, k3, HP, rfl⟩ := hrel
        by_cases hk : k < 32
        · have HP2 : Hid (2 * p = 2 ^ (k + 1 - n)) := by unfold Hid; rw [HP.out, show k + 1 - n = (k - n) + 1 by omega, Nat.pow_succ, Nat.mul_comm]
          have hp2 : 2 * p ≤ 4294967296 := by
            rw [HP2.out, show (4294967296 : Nat) = 2 ^ 32 by decide]
            exact Nat.pow_le_pow_right (by omega) (by omega)
          go_wp2_with fail
          go_roundw
          case rel => exact ⟨k + 1, 2 * p, by go_num, by go_num, by omega, by omega, hp2, HP2, trivial⟩
          case measure => simp [intOf]; omega
        · have hk32 : k = 32 := by omega
          have hpz : p = z := by rw [HP.out, HZ.out, hk32]
          clear HP k3
          subst hpz hk32
          have hz1 := HZP.out
          by_cases hm : x % p = 0
          · have HNB : Hid (nwB x (n : Int) = true) := by
              unfold Hid nwB; rw [decide_eq_true_eq, Int.toNat_natCast, ← HZ.out]; exact ⟨by omega, by omega, hm⟩
            have e1 : ((x : Int) % (p : Int)) = 0 := by exact_mod_cast hm
            have e2 : (((x : Int) % (p : Int)) != 0) = false := by rw [e1]; rfl
            have e3 : Int.tmod (x : Int) (p : Int) = 0 := by rw [← Int.ofNat_tmod, hm]; rfl
            have HOK := hid (new_ok hx HNB.out)
            have HNS : Hid (Ist.new x (n : Int) = ⟨x, p, 1, []⟩) := by unfold Hid Ist.new; rw [Int.toNat_natCast, ← HZ.out]
            clear hm HF
            go_wp2_with fail
            go_ret2
            refine .inr ⟨HNB.out, wr.heap.size, rfl, ⟨?_, ?_, HOK.out⟩, HB0.out.size, HB0.out.trans ((Below.refl _ _).alloc HB0.out.size _)⟩
            · rw [HNS.out]; exact heap_alloc_new wr _
            · rw [HNS.out]; exact OwnD.nil _ _
          · have HNB : Hid (nwB x (n : Int) = false) := by
              unfold Hid nwB; rw [decide_eq_false_iff_not, Int.toNat_natCast, ← HZ.out]; exact fun h => hm h.2.2
            have HFF := HF HNB.out
            have e1 : ¬ ((x : Int) % (p : Int)) = 0 := by intro e; exact hm (by exact_mod_cast e)
            have e3 : ¬ Int.tmod (x : Int) (p : Int) = 0 := by rw [← Int.ofNat_tmod]; intro e; exact hm (by exact_mod_cast e)
            clear hm HF
            go_wp2_with fail
            go_ret2
            exact HFF.out

theorem named_any (s : ByteArray) (w : World) (hs : s.size ≤ maxLen) :
    Calls Try.prog 47 #[.string s] w fun e w' => e = .returned (.bool (nmB s)) ∧ w' = w := by
  unfold maxLen at hs
  obtain ⟨R, HR⟩ : ∃ R, Hid (R = nmB s) := ⟨_, rfl⟩
  rw [← HR.out]
  have HF : ¬ (1 ≤ s.size ∧ s.size ≤ 63 ∧ bOf s 0 ≠ 45 ∧ bOf s (s.size - 1) ≠ 45 ∧ ∀ i, i < s.size → nbB (bOf s i) = true) → Hid (R = false) := fun h => by
    unfold Hid; rw [HR.out]; unfold nmB; exact decide_eq_false h
  by_cases h0 : s.size = 0
  · have HE := HF (by omega)
    have g0 : (s.size : Int) < 1 := by omega
    clear HF HR
    go_enter Try.func47, Try.ntmps47
    go_wp2
    go_ret
    exact ⟨ret_bool HE.out.symm, rfl⟩
  · have g0 : ¬ (s.size : Int) < 1 := by omega
    by_cases h63 : s.size ≤ 63
    · have hp : 0 < s.size := by omega
      have g63 : ¬ (63 : Int) < (s.size : Int) := by omega
      have B0 := bOf_at hp
      by_cases c0 : (s[0]'hp).toNat = 45
      · have HE := HF (by rw [B0]; omega)
        have q0 : (((s[0]'hp).toNat : Int) == 45) = true := by simp [c0]
        clear HF HR B0 c0
        go_enter Try.func47, Try.ntmps47
        go_wp2
        go_ret
        exact ⟨ret_bool HE.out.symm, rfl⟩
      · have q0 : (((s[0]'hp).toNat : Int) == 45) = false := by simp; omega
        have hl : s.size - 1 < s.size := by omega
        have BL := bOf_at hl
        by_cases cl : (s[s.size - 1]'hl).toNat = 45
        · have HE := HF (by rw [BL]; omega)
          have ql : (((s[s.size - 1]'hl).toNat : Int) == 45) = true := by simp [cl]
          clear HF HR B0 BL cl c0
          go_enter Try.func47, Try.ntmps47
          go_wp2
          go_ret
          exact ⟨ret_bool HE.out.symm, rfl⟩
        · have ql : (((s[s.size - 1]'hl).toNat : Int) == 45) = false := by simp; omega
          have HT : (∀ i, i < s.size → nbB (bOf s i) = true) → Hid (R = true) := fun h => by
            unfold Hid; rw [HR.out]; unfold nmB; rw [decide_eq_true_eq]
            exact ⟨by omega, h63, by rw [B0]; exact c0, by rw [BL]; exact cl, h⟩
          have HBt : ∀ (j : Nat) (hj : j < s.size), Hid (nbB (bOf s j) = nbB (s[j]'hj).toNat) := fun j hj => by unfold Hid; rw [bOf_at hj]
          clear HR B0 BL cl c0
          go_enter Try.func47, Try.ntmps47
          go_upto_region 4 with fail
          go_loopw [3] (fun i wr => ∃ k : Nat, i = .int .i64 (k : Int) ∧ k ≤ s.size ∧ Hid (∀ i, i < k → nbB (bOf s i) = true) ∧ wr = w) (fun i _ => s.size - (intOf i).toNat)
          case atStart => exact ⟨0, rfl, Nat.zero_le _, fun i hi => absurd hi (by omega), rfl⟩
          case round =>
            obtain ⟨k, rfl, hk, HA, rfl⟩ := hrel
            by_cases hlt : k < s.size
            · have hlt' : (k : Int) < (s.size : Int) := int_lt hlt
              obtain ⟨c, HCC⟩ : ∃ c, Hid (c = (s[k]'hlt).toNat) := ⟨_, rfl⟩
              have HYES : nbB c = true → Hid (∀ i, i < k + 1 → nbB (bOf s i) = true) := fun hb i hi => by
                rcases Nat.lt_or_ge i k with h | h
                · exact HA.out i h
                · have : i = k := by omega
                  subst this
                  rw [(HBt i hlt).out, ← HCC.out]; exact hb
              have HNO : nbB c = false → Hid (R = false) := fun hb => HF (fun h => by have := h.2.2.2.2 k hlt; rw [(HBt k hlt).out, ← HCC.out, hb] at this; cases this)
              go_upto_region 7 with fail
              rw [← HCC.out]
              clear HBt HF HT HA HCC
              by_cases h1 : (97 : Int) ≤ (c : Int)
              · by_cases h2 : (c : Int) ≤ 122
                · have HY := HYES (by unfold nbB; rw [decide_eq_true_eq]; omega)
                  clear HYES HNO
                  go_wp2_with fail
                  go_roundw
                  case rel => exact ⟨k + 1, by go_num, hlt, HY, trivial⟩
                  case measure => simp [intOf]; omega
                · have h3 : (48 : Int) ≤ (c : Int) := by omega
                  have h4 : ¬ (c : Int) ≤ 57 := by omega
                  have h5 : ((c : Int) != 45) = true := by simp; omega
                  have HE := HNO (by unfold nbB; rw [decide_eq_false_iff_not]; omega)
                  clear HYES HNO
                  go_wp2_with fail
                  go_ret
                  exact ⟨ret_bool HE.out.symm, rfl⟩
              · by_cases h3 : (48 : Int) ≤ (c : Int)
                · by_cases h4 : (c : Int) ≤ 57
                  · have HY := HYES (by unfold nbB; rw [decide_eq_true_eq]; omega)
                    clear HYES HNO
                    go_wp2_with fail
                    go_roundw
                    case rel => exact ⟨k + 1, by go_num, hlt, HY, trivial⟩
                    case measure => simp [intOf]; omega
                  · have h5 : ((c : Int) != 45) = true := by simp; omega
                    have HE := HNO (by unfold nbB; rw [decide_eq_false_iff_not]; omega)
                    clear HYES HNO
                    go_wp2_with fail
                    go_ret
                    exact ⟨ret_bool HE.out.symm, rfl⟩
                · by_cases h5' : c = 45
                  · have h5 : ((c : Int) != 45) = false := by simp [h5']
                    have HY := HYES (by unfold nbB; rw [decide_eq_true_eq]; omega)
                    clear HYES HNO h5'
                    go_wp2_with fail
                    go_roundw
                    case rel => exact ⟨k + 1, by go_num, hlt, HY, trivial⟩
                    case measure => simp [intOf]; omega
                  · have h5 : ((c : Int) != 45) = true := by simp; omega
                    have HE := HNO (by unfold nbB; rw [decide_eq_false_iff_not]; omega)
                    clear HYES HNO h5'
                    go_wp2_with fail
                    go_ret
                    exact ⟨ret_bool HE.out.symm, rfl⟩
            · have hlt' : ¬ (k : Int) < (s.size : Int) := int_nlt hlt
              have HE := HT (fun i hi => HA.out i (by omega))
              clear HBt HF HT
              go_wp2_with fail
              go_ret
              exact ⟨ret_bool HE.out.symm, rfl⟩
    · have HE := HF (by omega)
      have g63 : (63 : Int) < (s.size : Int) := by omega
      clear HF HR
      go_enter Try.func47, Try.ntmps47
      go_wp2
      go_ret
      exact ⟨ret_bool HE.out.symm, rfl⟩

theorem findR_any (w : World) (rb : Nat) (vp : Value) (s : Ist) (n : ByteArray) (h : RfAt w rb vp s) :
    Calls Try.prog 32 #[.pointer (some ⟨rb, 0, none⟩), .string n] w fun e w' => e = .returned (.tuple #[.int .u32 (s.fnA n : Int), .int .i64 (s.fnE n)]) ∧ w' = w := by
  obtain ⟨-, -, c2, -, -, -⟩ := h.cells
  have HA := hid (at_any w rb vp s n h)
  obtain ⟨av, nv, cv, rfl, HN, hnc, hcap, hnil⟩ := h.own.shape
  have HO := hid h.own
  have hle : nv ≤ 1024 := by have := h.ok.le; have := HN.out; omega
  clear h hnil hcap
  go_enter Try.func32, Try.ntmps32
  go_wp2_with fail
  refine HA.out.mono ?_
  rintro _ _ ⟨⟨v, rfl, hv⟩, ew⟩
  obtain rfl := ew.symm
  clear ew HA
  rcases hv with ⟨hf, rfl⟩ | ⟨j, p, hf, hj, rfl⟩
  · have HE : Hid (s.fnA n = 0 ∧ s.fnE n = 3) := by unfold Hid Ist.fnA Ist.fnE; rw [hf]; exact ⟨rfl, rfl⟩
    go_wp2_with fail
    go_ret2
    exact ⟨by rw [HE.out.1, HE.out.2]; rfl, rfl⟩
  · have HE : Hid (s.fnA n = p.ad ∧ s.fnE n = 0) := by unfold Hid Ist.fnA Ist.fnE; rw [hf]; exact ⟨rfl, rfl⟩
    obtain ⟨g, rfl, hg, hcl⟩ := HO.out.at hj
    obtain ⟨d0, d1, -, -⟩ := hcl w rfl
    have hjl : j < nv := by have := (List.getElem?_eq_some_iff.1 hj).1; have := HN.out; omega
    have hj1 : (j : Int) < (nv : Int) := int_lt hjl
    have hj2 : ¬ (j : Int) < 0 := by omega
    clear hcl hg d0 hf hj
    go_wp2_with fail
    go_ret2
    exact ⟨by rw [HE.out.1, HE.out.2]; rfl, rfl⟩

theorem ownerR_any (w : World) (rb : Nat) (vp : Value) (s : Ist) (a : Nat) (h : RfAt w rb vp s) (ha : a < 4294967296) :
    Calls Try.prog 34 #[.pointer (some ⟨rb, 0, none⟩), .int .u32 (a : Int)] w fun e w' => e = .returned (.tuple #[.string (s.owN a), .int .i64 (s.owE a)]) ∧ Below w.heap.size w w' := by
  have HR := hid h
  have HC : ∀ t : Beh w, RfAt t.wd rb vp s := fun t => h.below t.ok
  have k0 : ∀ t : Beh w, t.wd.cell? ⟨rb, 0, none⟩ = some (.int .i64 (s.b : Int)) := fun t => (HC t).cells.1
  have k1 : ∀ t : Beh w, t.wd.cell? ⟨rb, 1, none⟩ = some (.int .i64 (s.z : Int)) := fun t => (HC t).cells.2.1
  have hz := h.ok.z31
  have hb := h.ok.be
  have HH : ∀ t : Beh w, Hid (Calls Try.prog 49 #[.pointer (some ⟨rb, 0, none⟩), .int .i64 (a : Int)] t.wd fun e w' => (∃ v, e = .returned (.int .i64 v) ∧ AtA s a v) ∧ w' = t.wd) := fun t => holder_any t.wd rb vp s a (HC t)
  have HC2 : ∀ t : Beh w, Hid (t.wd.cell? ⟨rb, 2, none⟩ = some vp ∧ OwnD t.wd 0 vp s.S) := fun t => ⟨(HC t).cells.2.2.1, (HC t).own⟩
  have HLE : Hid (s.S.length ≤ 1024) := h.ok.le
  have HNN : ¬ (a < s.b ∨ s.b + s.z ≤ a) → ∀ v, AtA s a v → Hid ((v = -1 ∧ s.owN a = ⟨#[]⟩ ∧ s.owE a = 3) ∨ ∃ (j : Nat) (p : Pod), s.S[j]? = some p ∧ v = (j : Int) ∧ s.owN a = p.nm ∧ s.owE a = 0) := fun hno v hv => by
    rcases hv with ⟨hf, rfl⟩ | ⟨j, p, hf, hj, rfl⟩
    · refine .inl ⟨rfl, ?_⟩
      unfold Ist.owN Ist.owE; rw [if_neg hno, if_neg hno, hf]; exact ⟨rfl, rfl⟩
    · refine .inr ⟨j, p, hj, rfl, ?_⟩
      unfold Ist.owN Ist.owE; rw [if_neg hno, if_neg hno, hf]; exact ⟨rfl, rfl⟩
  have HOUT : (a < s.b ∨ s.b + s.z ≤ a) → Hid (s.owN a = ⟨#[]⟩ ∧ s.owE a = 151) := fun ho => by unfold Hid Ist.owN Ist.owE; rw [if_pos ho, if_pos ho]; exact ⟨rfl, rfl⟩
  generalize s.owN a = N at *
  generalize s.owE a = E at *
  generalize hsb : s.b = b at *
  generalize hsz : s.z = z at *
  have wv : wrap64 (a : Int) = (a : Int) := by unfold wrap64; omega
  have wv2 : wrap64 ((b : Int) + (z : Int)) = (b : Int) + (z : Int) := by unfold wrap64; omega
  clear h HC hsb hsz
  by_cases g1 : a < b
  · have g1' : (a : Int) < (b : Int) := int_lt g1
    have HE := HOUT (.inl g1)
    clear HOUT HNN g1 HH HC2
    go_enter Try.func34, Try.ntmps34
    go_upto_region 1 with fail
    refine wp_region_beh (by kernel_rfl) (by kernel_rfl) ?_
    repeat (go_big_quiet_step (fail))
    refine wpQuiet_nil ?_
    rintro _ ⟨t, rfl⟩
    go_wp2_with fail
    go_ret2
    exact ⟨by rw [HE.out.1, HE.out.2]; rfl, t.ok⟩
  · have g1' : ¬ (a : Int) < (b : Int) := int_nlt g1
    by_cases g2 : b + z ≤ a
    · have g2' : (b : Int) + (z : Int) ≤ (a : Int) := by omega
      have HE := HOUT (.inr g2)
      clear HOUT HNN g1 g2 HH HC2
      go_enter Try.func34, Try.ntmps34
      go_upto_region 1 with fail
      refine wp_region_beh (by kernel_rfl) (by kernel_rfl) ?_
      repeat (go_big_quiet_step (fail))
      refine wpQuiet_nil ?_
      rintro _ ⟨t, rfl⟩
      go_wp2_with fail
      go_ret2
      exact ⟨by rw [HE.out.1, HE.out.2]; rfl, t.ok⟩
    · have g2' : ¬ (b : Int) + (z : Int) ≤ (a : Int) := by omega
      have HNO := HNN (by omega)
      clear HOUT HNN g1 g2
      go_enter Try.func34, Try.ntmps34
      go_upto_region 1 with fail
      refine wp_region_beh (by kernel_rfl) (by kernel_rfl) ?_
      repeat (go_big_quiet_step (fail))
      refine wpQuiet_nil ?_
      rintro _ ⟨t, rfl⟩
      have HT := hid t.ok
      have HHT := HH t
      have HCT := HC2 t
      clear HH HC2 k0 k1
      generalize t.wd = u at *
      go_wp2_with fail
      refine HHT.out.mono ?_
      rintro _ _ ⟨⟨v, rfl, hv⟩, ew⟩
      obtain rfl := ew.symm
      clear ew HHT
      have HV := HNO v hv
      clear HNO hv
      rcases HV.out with ⟨rfl, e1, e2⟩ | ⟨j, p, hj, rfl, e1, e2⟩
      · have HE := hid (And.intro e1 e2)
        clear e1 e2 HV
        go_wp2_with fail
        go_ret2
        exact ⟨by rw [HE.out.1, HE.out.2]; rfl, HT.out⟩
      · have HE := hid (And.intro e1 e2)
        obtain ⟨hc2, ho⟩ := HCT.out
        obtain ⟨av, nv, cv, rfl, HN, hnc, hcap, hnil⟩ := ho.shape
        obtain ⟨g, rfl, hg, hcl⟩ := ho.at hj
        obtain ⟨d0, d1, -, -⟩ := hcl u rfl
        have hjl : j < nv := by have := (List.getElem?_eq_some_iff.1 hj).1; have := HN.out; omega
        have hj1 : (j : Int) < (nv : Int) := int_lt hjl
        have hj2 : ¬ (j : Int) < 0 := by omega
        have hle : nv ≤ 1024 := by have := HLE.out; have := HN.out; omega
        clear e1 e2 HV hcl hg ho hj d1 hnil hcap HCT
        go_wp2_with fail
        go_ret2
        exact ⟨by rw [HE.out.1, HE.out.2]; rfl, HT.out⟩
end Go.Proofs.Ytjilahbkolcekab
