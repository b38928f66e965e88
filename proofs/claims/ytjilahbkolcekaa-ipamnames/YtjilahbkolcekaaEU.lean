/-
  IpamNames.
-/
import Derived.Test.YtjilahbkolcekaaES
namespace Go.Proofs.Ytjilahbkolcekaa
open Go.ChangeShapes Go.WideShapes Go.ChangeAt Go.RowKit Go.Maps Tri
set_option maxHeartbeats 4000000
set_option maxRecDepth 100000

/-- Letter by letter. -/
def okc (s : ByteArray) (i : Nat) : Bool := decide ((97 ≤ bOf s i ∧ bOf s i ≤ 122) ∨ (48 ≤ bOf s i ∧ bOf s i ≤ 57) ∨ (bOf s i = 45 ∧ 0 < i ∧ i + 1 < s.size))
def okN (s : ByteArray) (k : Nat) : Bool := decide (1 ≤ s.size ∧ s.size ≤ 63 ∧ ∀ i, i < k → okc s i = true)

theorem okN_step {s : ByteArray} {k : Nat} : okN s (k + 1) = (okN s k && okc s k) := by
  unfold okN
  by_cases h : okc s k = true
  · rw [h, Bool.and_true, decide_eq_decide]
    constructor
    · rintro ⟨h1, h2, h3⟩
      exact ⟨h1, h2, fun i hi => h3 i (by omega)⟩
    · rintro ⟨h1, h2, h3⟩
      refine ⟨h1, h2, fun i hi => ?_⟩
      rcases Nat.lt_or_ge i k with h4 | h4
      · exact h3 i h4
      · have : i = k := by omega
        subst this; exact h
  · have h' : okc s k = false := by simpa using h
    rw [h', Bool.and_false, decide_eq_false_iff_not]
    rintro ⟨h1, h2, h3⟩
    exact h (h3 k (by omega))

theorem okN_name (s : ByteArray) : okN s s.size = nmB s := by
  unfold okN nmB
  rw [decide_eq_decide]
  constructor
  · rintro ⟨h1, h2, h3⟩
    have key : ∀ i, i < s.size → (97 ≤ bOf s i ∧ bOf s i ≤ 122) ∨ (48 ≤ bOf s i ∧ bOf s i ≤ 57) ∨ (bOf s i = 45 ∧ 0 < i ∧ i + 1 < s.size) := fun i hi => by
      have := h3 i hi
      unfold okc at this
      exact of_decide_eq_true this
    refine ⟨h1, h2, fun e => ?_, fun e => ?_, fun i hi => ?_⟩
    · have := key 0 (by omega); omega
    · have := key (s.size - 1) (by omega); omega
    · have := key i hi
      unfold nbB
      rw [decide_eq_true_eq]
      omega
  · rintro ⟨h1, h2, h3, h4, h5⟩
    refine ⟨h1, h2, fun i hi => ?_⟩
    have := h5 i hi
    unfold nbB at this
    rw [decide_eq_true_eq] at this
    unfold okc
    rw [decide_eq_true_eq]
    rcases this with h | h | h
    · exact .inl h
    · exact .inr (.inl h)
    · refine .inr (.inr ⟨h, ?_, ?_⟩)
      · rcases Nat.eq_zero_or_pos i with e | e
        · subst e; exact absurd h h3
        · exact e
      · rcases Nat.lt_or_ge (i + 1) s.size with e | e
        · exact e
        · have : i = s.size - 1 := by omega
          subst this; exact absurd h h4

theorem names_true {s : Ist} (hok : s.Ok) (hS : s.S = []) {n : ByteArray} (h : nmB n = true) : ∃ r, s.addR n = (s.b + r, 0, s.add n r) ∧ (s.add n r).fnE n = 0 ∧ ((s.add n r).addR n).2.1 = 5 := by
  have hl : s.S.length < 1024 := by rw [hS]; decide
  have hn : s.byN n = none := by unfold Ist.byN; rw [hS]; rfl
  have hf : s.fr ≠ none := fun e => by
    have := (hok.fr_none hl).1 e
    have h4 := hok.z4
    rw [hS] at this
    simp at this
    omega
  cases hfr : s.fr with
  | none => exact absurd hfr hf
  | some r =>
    have hb : (s.add n r).byN n = some ⟨n, s.b + r⟩ := by rw [byN_add hn, if_pos rfl]
    refine ⟨r, ?_, ?_, ?_⟩
    · unfold Ist.addR
      rw [if_neg (by rw [h]; simp), if_neg (by rw [hn]; simp), if_neg (by omega), hfr]
    · unfold Ist.fnE; rw [hb]; rfl
    · unfold Ist.addR; rw [if_neg (by rw [h]; simp), if_pos (by rw [hb]; rfl)]
theorem names_false {s : Ist} (hS : s.S = []) {n : ByteArray} (h : nmB n = false) : s.addR n = (0, 150, s) ∧ s.fnE n = 3 := by
  refine ⟨?_, ?_⟩
  · unfold Ist.addR; rw [if_pos h]
  · unfold Ist.fnE Ist.byN; rw [hS]; rfl

theorem names_walk (s : ByteArray) (w : World) (hs : s.size ≤ maxLen) :
    Calls Try.prog 4 #[.string s] w fun e w' => e = .returned (.bool true) ∧ Below w.heap.size w w' := by
  have HSM := hid hs
  unfold maxLen at hs
  have HN : Hid (Calls Try.prog 11 #[.agg #[.int .u32 168100096, .int .i64 29]] w (NwI 168100096 29 w)) := new_any 168100096 29 w (by decide)
  go_enter Try.func4, Try.ntmps4
  go_wp2_with fail
  refine HN.out.mono ?_
  rintro _ w1 (⟨hb, rfl, hb1⟩ | ⟨hb, pb, bn, ba, rfl, hi1, hk1, hb1⟩)
  · exact absurd hb (by decide)
  · have HF := hid (first_any w1)
    have HI1 := hid hi1
    have HK1 := hid hk1
    have HB1 := hid hb1
    clear HN hi1 hk1 hb1 hb
    go_wp2_with fail
    refine HF.out.mono ?_
    rintro _ w2 ⟨rfl, hb2⟩
    have HI2 := hid (HI1.out.below hb2)
    have HB2 := hid (HB1.out.trans (hb2.mono HB1.out.size))
    clear HF hb2
    obtain ⟨B0, HB0⟩ : ∃ B0, Hid (B0 = okN s 0) := ⟨_, rfl⟩
    have HBC : (1 ≤ s.size ∧ s.size ≤ 63 → Hid (B0 = true)) ∧ (¬ (1 ≤ s.size ∧ s.size ≤ 63) → Hid (B0 = false)) := by
      refine ⟨fun h => ?_, fun h => ?_⟩
      · unfold Hid; rw [HB0.out]; unfold okN; rw [decide_eq_true_eq]; exact ⟨h.1, h.2, fun i hi => absurd hi (by omega)⟩
      · unfold Hid; rw [HB0.out]; unfold okN; rw [decide_eq_false_iff_not]; rintro ⟨h1, h2, -⟩; exact h ⟨h1, h2⟩
    go_upto_region 4 with fail
    go_cut [5] from 32 to 39 (fun o wx => o = .bool B0 ∧ wx = w2)
    case first =>
      by_cases g1 : 1 ≤ s.size
      · have g1' : (1 : Int) ≤ (s.size : Int) := by omega
        by_cases g2 : s.size ≤ 63
        · have g2' : (s.size : Int) ≤ 63 := by omega
          have HE := HBC.1 ⟨g1, g2⟩
          clear HBC
          go_wp2_with fail
          go_meet
          exact ⟨by rw [HE.out], rfl⟩
        · have g2' : ¬ (s.size : Int) ≤ 63 := by omega
          have HE := HBC.2 (by omega)
          clear HBC
          go_wp2_with fail
          go_meet
          exact ⟨by rw [HE.out], rfl⟩
      · have g1' : ¬ (1 : Int) ≤ (s.size : Int) := by omega
        have HE := HBC.2 (by omega)
        clear HBC
        go_wp2_with fail
        go_meet
        exact ⟨by rw [HE.out], rfl⟩
    case rest =>
      obtain ⟨rfl, ew⟩ := hcut
      obtain rfl := ew.symm
      clear ew
      clear HBC
      go_upto_region 6 with fail
      go_loopw [5, 6] (fun o i wr => ∃ k : Nat, i = .int .i64 (k : Int) ∧ k ≤ s.size ∧ (∃ q, o = .bool q ∧ Hid (q = okN s k)) ∧ wr = w2) (fun _ i _ => s.size - (intOf i).toNat)
      case atStart => exact ⟨0, rfl, Nat.zero_le _, ⟨_, rfl, HB0⟩, rfl⟩
      case round =>
        obtain ⟨k, rfl, hk, ⟨q, rfl, HQ⟩, ew⟩ := hrel
        obtain rfl := ew.symm
        clear ew
        by_cases hlt : k < s.size
        · have hlt' : (k : Int) < (s.size : Int) := int_lt hlt
          obtain ⟨c, HC⟩ : ∃ c, Hid (c = (s[k]'hlt).toNat) := ⟨_, rfl⟩
          have HBO : Hid (bOf s k = c) := by unfold Hid; rw [HC.out]; exact bOf_at hlt
          have HYES : okc s k = true → Hid (q = okN s (k + 1)) := fun h => by unfold Hid; rw [okN_step, h, Bool.and_true]; exact HQ.out
          have HNO : okc s k = false → Hid (false = okN s (k + 1)) := fun h => by unfold Hid; rw [okN_step, h, Bool.and_false]
          have hws : IntKind.i64.wrap ((s.size : Int) - 1) = (s.size : Int) - 1 := by rw [IntKind.wrap_i64]; omega
          go_upto_region 9 with fail
          rw [← HC.out]
          clear HC HQ
          by_cases h1 : (97 : Int) ≤ (c : Int)
          · by_cases h2 : (c : Int) ≤ 122
            · have h3 : (48 : Int) ≤ (c : Int) := by omega
              have h4 : ¬ (c : Int) ≤ 57 := by omega
              have h5 : ((c : Int) == 45) = false := by simp; omega
              have HY := HYES (by unfold okc; rw [HBO.out, decide_eq_true_eq]; omega)
              clear HYES HNO HBO
              go_wp2_with fail
              go_roundw
              case rel => exact ⟨k + 1, by go_num, hlt, ⟨_, rfl, HY⟩, trivial⟩
              case measure => simp [intOf]; omega
            · have h3 : (48 : Int) ≤ (c : Int) := by omega
              have h4 : ¬ (c : Int) ≤ 57 := by omega
              have h5 : ((c : Int) == 45) = false := by simp; omega
              have HY := HNO (by unfold okc; rw [HBO.out, decide_eq_false_iff_not]; omega)
              clear HYES HNO HBO
              go_wp2_with fail
              go_roundw
              case rel => exact ⟨k + 1, by go_num, hlt, ⟨_, rfl, HY⟩, trivial⟩
              case measure => simp [intOf]; omega
          · by_cases h3 : (48 : Int) ≤ (c : Int)
            · by_cases h4 : (c : Int) ≤ 57
              · have h5 : ((c : Int) == 45) = false := by simp; omega
                have HY := HYES (by unfold okc; rw [HBO.out, decide_eq_true_eq]; omega)
                clear HYES HNO HBO
                go_wp2_with fail
                go_roundw
                case rel => exact ⟨k + 1, by go_num, hlt, ⟨_, rfl, HY⟩, trivial⟩
                case measure => simp [intOf]; omega
              · have h5 : ((c : Int) == 45) = false := by simp; omega
                have HY := HNO (by unfold okc; rw [HBO.out, decide_eq_false_iff_not]; omega)
                clear HYES HNO HBO
                go_wp2_with fail
                go_roundw
                case rel => exact ⟨k + 1, by go_num, hlt, ⟨_, rfl, HY⟩, trivial⟩
                case measure => simp [intOf]; omega
            · by_cases h6 : c = 45
              · by_cases h7 : k = 0
                · have h5 : ((c : Int) == 45) = true := by simp [h6]
                  have h9 : ¬ (0 : Int) < (k : Int) := by omega
                  have h9' : ¬ 0 < k := by omega
                  have HY := HNO (by unfold okc; rw [HBO.out, decide_eq_false_iff_not]; omega)
                  clear HYES HNO HBO
                  go_wp2_with fail
                  go_roundw
                  case rel => exact ⟨k + 1, by go_num, hlt, ⟨_, rfl, HY⟩, trivial⟩
                  case measure => simp [intOf]; omega
                · by_cases h8 : k + 1 < s.size
                  · have h5 : ((c : Int) == 45) = true := by simp [h6]
                    have h9 : (0 : Int) < (k : Int) := by omega
                    have h9' : 0 < k := by omega
                    have h10 : (k : Int) < (s.size : Int) - 1 := by omega
                    have HY := HYES (by unfold okc; rw [HBO.out, decide_eq_true_eq]; omega)
                    clear HYES HNO HBO
                    go_wp2_with fail
                    go_roundw
                    case rel => exact ⟨k + 1, by go_num, hlt, ⟨_, rfl, HY⟩, trivial⟩
                    case measure => simp [intOf]; omega
                  · have h5 : ((c : Int) == 45) = true := by simp [h6]
                    have h9 : (0 : Int) < (k : Int) := by omega
                    have h9' : 0 < k := by omega
                    have h10 : decide ((k : Int) < (s.size : Int) - 1) = false := by rw [decide_eq_false_iff_not]; omega
                    have HY := HNO (by unfold okc; rw [HBO.out, decide_eq_false_iff_not]; omega)
                    clear HYES HNO HBO
                    go_wp2_with fail
                    go_roundw
                    case rel => exact ⟨k + 1, by go_num, hlt, ⟨_, rfl, HY⟩, trivial⟩
                    case measure => simp [intOf]; omega
              · have h5 : ((c : Int) == 45) = false := by simp; omega
                have HY := HNO (by unfold okc; rw [HBO.out, decide_eq_false_iff_not]; omega)
                clear HYES HNO HBO
                go_wp2_with fail
                go_roundw
                case rel => exact ⟨k + 1, by go_num, hlt, ⟨_, rfl, HY⟩, trivial⟩
                case measure => simp [intOf]; omega
        · have hlt' : ¬ (k : Int) < (s.size : Int) := int_nlt hlt
          have hks : k = s.size := by omega
          have HNM : Hid (q = nmB s) := by unfold Hid; rw [HQ.out, hks, okN_name]
          clear HQ hks
          have HA1 := hid (add_any w2 pb bn ba (Ist.new 168100096 29) s HI2.out HSM.out)
          have HKP : Hid (∀ k, fpI pb bn ba k → w.heap.size ≤ k) := HK1.out
          cases q with
          | true =>
            obtain ⟨r, e1, e2, e3⟩ := names_true HI2.out.ok rfl HNM.out.symm
            rw [e1] at HA1
            generalize (Ist.new 168100096 29).add s r = S1 at *
            generalize (Ist.new 168100096 29).b + r = A1 at *
            go_wp2_with fail
            refine HA1.out.mono ?_
            rintro _ w3 ⟨rfl, hi3, hk3⟩
            have HF3 := hid (find_any w3 pb bn ba S1 s hi3 HSM.out)
            rw [e2] at HF3
            have HA3 := hid (add_any w3 pb bn ba S1 s hi3 HSM.out)
            rw [e3] at HA3
            have HB3 := hid (HB2.out.trans (hk3.below HB2.out.size HKP.out))
            generalize S1.fnA s = F1 at *
            generalize (S1.addR s).1 = G1 at *
            clear HA1 hi3 hk3 e1 e2 e3
            go_wp2_with fail
            refine HF3.out.mono ?_
            rintro _ _ ⟨rfl, ew⟩
            obtain rfl := ew.symm
            clear ew HF3
            go_wp2_with fail
            refine HA3.out.mono ?_
            rintro _ w4 ⟨rfl, -, hk4⟩
            have HB4 := hid (HB3.out.trans (hk4.below HB3.out.size HKP.out))
            clear HA3 hk4
            go_wp2_with fail
            go_ret
            exact ⟨rfl, HB4.out⟩
          | false =>
            obtain ⟨e1, e2⟩ := names_false (s := Ist.new 168100096 29) rfl HNM.out.symm
            rw [e1] at HA1
            go_wp2_with fail
            refine HA1.out.mono ?_
            rintro _ w3 ⟨rfl, hi3, hk3⟩
            have HF3 := hid (find_any w3 pb bn ba (Ist.new 168100096 29) s hi3 HSM.out)
            rw [e2] at HF3
            have HA3 := hid (add_any w3 pb bn ba (Ist.new 168100096 29) s hi3 HSM.out)
            rw [e1] at HA3
            have HB3 := hid (HB2.out.trans (hk3.below HB2.out.size HKP.out))
            generalize (Ist.new 168100096 29).fnA s = F1 at *
            clear HA1 hi3 hk3 e1 e2
            go_wp2_with fail
            refine HF3.out.mono ?_
            rintro _ _ ⟨rfl, ew⟩
            obtain rfl := ew.symm
            clear ew HF3
            go_wp2_with fail
            refine HA3.out.mono ?_
            rintro _ w4 ⟨rfl, -, hk4⟩
            have HB4 := hid (HB3.out.trans (hk4.below HB3.out.size HKP.out))
            clear HA3 hk4
            go_wp2_with fail
            go_ret
            exact ⟨rfl, HB4.out⟩
end Go.Proofs.Ytjilahbkolcekaa
