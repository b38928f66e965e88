/-
  weftref7: number, laid, joined, typed.
-/
import Derived.Test.YtcelcnafcfefhaaTN
import Derived.Test.YtcelcnafcfefhaaNQ
import Derived.Test.YtcelcnafcfefhaaND
namespace Go.Proofs.Ytcelcnafcfefhaa.N
open Go.ChangeShapes Go.WideShapes Go.ChangeAt Go.RowKit
set_option maxHeartbeats 4000000
set_option maxRecDepth 100000

/-- A number's n bytes, the highest first. -/
def laidL (v : Nat) : Nat → List Nat
  | 0 => []
  | n + 1 => v / 256 ^ n % 256 :: laidL v n
theorem laidL_two (v : Nat) : laidL v 2 = Tn.be2 v := by simp [laidL, Tn.be2]
theorem laidL_four (v : Nat) : laidL v 4 = Tn.be4 v := by simp [laidL, Tn.be4]
theorem laidL_len (v n : Nat) : (laidL v n).length = n := by induction n with | zero => rfl | succ n ih => simp [laidL, ih]

def numN (L : List Nat) (p : Nat) : Nat → Nat
  | 0 => 0
  | n + 1 => numN L p n * 256 + byt L (p + n)
theorem numN_two (L : List Nat) (p : Nat) : numN L p 2 = Tn.num2 L p := by simp [numN, Tn.num2, byt]
theorem numN_lt {L : List Nat} (h : ∀ x ∈ L, x < 256) (p n : Nat) : numN L p n < 256 ^ n := by
  induction n with
  | zero => simp [numN]
  | succ n ih =>
    have := byt_lt h (p + n)
    rw [numN, Nat.pow_succ]
    omega

theorem typedR_any (n : Nat) (w : World) (hn : n < 65536) :
    Calls Try.prog 57 #[.int .i64 (n : Int)] w fun e w' => e = .returned (.int .i64 (Tn.tyE n)) ∧ w' = w := by
  by_cases h1 : n < 1536
  · have hr : Tn.tyE n = 70 := by unfold Tn.tyE; rw [if_pos h1]
    rw [hr]
    clear hr
    go_enter Try.func57, Try.ntmps57
    go_wp2_with fail
    go_ret
    exact ⟨rfl, rfl⟩
  · by_cases h2 : n = 33024
    · subst h2
      rw [show Tn.tyE 33024 = 71 from rfl]
      go_enter Try.func57, Try.ntmps57
      go_wp2_with fail
      go_ret
      exact ⟨rfl, rfl⟩
    · by_cases h3 : n = 34984
      · subst h3
        rw [show Tn.tyE 34984 = 71 from rfl]
        go_enter Try.func57, Try.ntmps57
        go_wp2_with fail
        go_ret
        exact ⟨rfl, rfl⟩
      · have hr : Tn.tyE n = 0 := by unfold Tn.tyE; rw [if_neg h1, if_neg (by omega)]
        have q1 : ((n : Int) == 33024) = false := by simp; omega
        have q2 : ((n : Int) == 34984) = false := by simp; omega
        rw [hr]
        clear hr h2 h3
        go_enter Try.func57, Try.ntmps57
        go_wp2_with fail
        go_ret
        exact ⟨rfl, rfl⟩

theorem numberR_any (v : Value) (L : List Nat) (p n : Nat) (w : World) (hv : SeesB w v L) (hn : n ≤ 4) (hl : p + n ≤ L.length) :
    Calls Try.prog 56 #[v, .int .i64 (p : Int), .int .i64 (n : Int)] w fun e w' => e = .returned (.int .i64 (numN L p n : Nat)) ∧ Below w.heap.size w w' := by
  obtain ⟨ao, m, cap, rfl, HN, hn1, hn2⟩ := hv.shape
  unfold maxLen at hn2
  have HV := hid hv
  have HBY := hid hv.bytes
  rw [← HN.out] at hl
  clear hv
  go_enter Try.func56, Try.ntmps56
  go_wp2_with fail
  go_loopw [7, 8] (fun t i wv => ∃ (k : Nat) (wr : World), i = .int .i64 (k : Int) ∧ t = .int .i64 ((numN L p k : Nat) : Int) ∧ k ≤ n ∧ wr = wv ∧ Below w.heap.size w wr) (fun _ i _ => n - (intOf i).toNat)
  case atStart => exact ⟨0, _, rfl, rfl, by omega, rfl, Below.refl _ _⟩
  case round =>
    obtain ⟨k, wr, rfl, rfl, hk, rfl, hb⟩ := hrel
    by_cases hlt : k < n
    · obtain ⟨g, off, rfl, _, hc⟩ := (HV.out.below hb).atB (p + k) (by omega)
      have hx := byt_lt HBY.out (p + k)
      have ht := numN_lt HBY.out p k
      have ht2 : numN L p k < 16777216 := by
        have : 256 ^ k ≤ 256 ^ 3 := Nat.pow_le_pow_right (by omega) (by omega)
        omega
      have HNX : Hid (numN L p (k + 1) = numN L p k * 256 + byt L (p + k)) := rfl
      generalize byt L (p + k) = x at *
      generalize numN L p k = t at *
      have b0 : (p : Int) + (k : Int) < (m : Int) := by omega
      have b1 : (0 : Int) ≤ (p : Int) + (k : Int) := by omega
      have b2 : (p : Int) + (k : Int) ≤ 9223372036854775807 := by omega
      have e1 : ((p : Int) + (k : Int)).toNat = p + k := by omega
      clear ht
      go_wp2_with fail
      go_roundw
      case rel => exact ⟨k + 1, _, by go_num, by rw [HNX.out]; go_num, by omega, rfl, hb⟩
      case measure => simp [intOf]; omega
    · obtain rfl : k = n := by omega
      go_wp2_with fail
      go_ret
      exact ⟨rfl, hb⟩

theorem joinedR_any (l v : Value) (M L : List Nat) (lo hi : Nat) (w0 w : World) (hb0 : Below w0.heap.size w0 w) (hO : OwnB w w0.heap.size l M) (hv : SeesB w0 v L) (hlo : lo ≤ hi) (hhi : hi ≤ L.length) (hl : M.length + hi ≤ 1099511627776) :
    Calls Try.prog 58 #[l, v, .int .i64 (lo : Int), .int .i64 (hi : Int)] w fun e w' => ∃ l', e = .returned l' ∧ OwnB w' w0.heap.size l' (M ++ (L.take hi).drop lo) ∧ Below w0.heap.size w0 w' := by
  obtain ⟨ao, m, cap, rfl, HN, hn1, hn2⟩ := hv.shape
  unfold maxLen at hn2
  have HV := hid hv
  have HO := hid hO
  have HB0 := hid hb0
  have hhm : hi ≤ m := by rw [HN.out]; exact hhi
  clear hv hO hhi hb0
  go_enter Try.func58, Try.ntmps58
  go_wp2_with fail
  go_loopw [0, 9] (fun t i wv => ∃ (k : Nat) (wr : World), i = .int .i64 (k : Int) ∧ lo ≤ k ∧ k ≤ hi ∧ wr = wv ∧ Hid (OwnB wr w0.heap.size t (M ++ (L.take k).drop lo)) ∧ Below w0.heap.size w0 wr) (fun _ i _ => hi - (intOf i).toNat)
  case atStart => exact ⟨lo, _, rfl, Nat.le_refl _, hlo, rfl, by
      unfold Hid
      rw [List.drop_eq_nil_of_le (by rw [List.length_take]; omega), List.append_nil]
      exact HO.out, HB0.out⟩
  case round =>
    obtain ⟨k, wr, rfl, hk1, hk2, rfl, HOK, hb⟩ := hrel
    by_cases hlt : k < hi
    · obtain ⟨g, off, x, rfl, _, hc, hx, HX⟩ := (HV.out.below hb).at k (by omega)
      have HF : Hid (M ++ ((L.take k).drop lo ++ [x]) = M ++ (L.take (k + 1)).drop lo) := by
        unfold Hid
        have hkl : k < L.length := by have := HN.out; omega
        rw [take_snoc HX.out, List.drop_append_of_le_length (by rw [List.length_take]; omega)]
      have HLE : Hid ((M ++ (L.take k).drop lo).length + [x].length ≤ 140737488355328) := by
        unfold Hid
        rw [List.length_append, List.length_drop, List.length_take]
        simp only [List.length_cons, List.length_nil]
        omega
      have b0 : (k : Int) < (m : Int) := by omega
      have b1 : (0 : Int) ≤ (k : Int) := by omega
      go_wp2_with (at_builtin; refine wpList_append_bytes rfl _ _ rfl w0.heap.size _ _ rfl (HOK.out.alloc _) _ [x] rfl (sees_one rfl x hx _) ?c1 ?c2 ?_)
      case c1 => exact HLE.out
      case c2 => have := hb.size; simp; omega
      · intro v' w2 ho hb2
        rw [HF.out] at ho
        have HO2 := hid ho
        have hb3 : Below w0.heap.size w0 w2 := (hb.alloc hb.size _).trans hb2
        clear ho hb2 hc
        go_wp2_with fail
        go_roundw
        case rel => exact ⟨k + 1, _, by go_num, by omega, by omega, rfl, HO2, hb3⟩
        case measure => simp [intOf]; omega
    · obtain rfl : k = hi := by omega
      go_wp2_with fail
      go_ret
      exact ⟨_, rfl, HOK.out, hb⟩

theorem laidR_any (l : Value) (L : List Nat) (v n : Nat) (w0 w : World) (hb0 : Below w0.heap.size w0 w) (hO : OwnB w w0.heap.size l L) (hn : n ≤ 8) (hv : v ≤ 9223372036854775807) (hl : L.length ≤ 1099511627776) :
    Calls Try.prog 59 #[l, .int .i64 (v : Int), .int .i64 (n : Int)] w fun e w' => ∃ l', e = .returned l' ∧ OwnB w' w0.heap.size l' (L ++ laidL v n) ∧ Below w0.heap.size w0 w' := by
  have HO := hid hO
  have HB0 := hid hb0
  clear hO hb0
  go_enter Try.func59, Try.ntmps59
  go_wp2_with fail
  go_loopw [0, 7, 8, 9] (fun t i _ _ wv => ∃ (m : Nat) (C : List Nat) (wr : World), i = .int .i64 ((m : Int) - 1) ∧ m ≤ n ∧ Hid (C ++ laidL v m = laidL v n) ∧ wr = wv ∧ Hid (OwnB wr w0.heap.size t (L ++ C)) ∧ Below w0.heap.size w0 wr) (fun _ i _ _ _ => ((intOf i) + 1).toNat)
  case atStart => exact ⟨n, [], _, rfl, Nat.le_refl _, rfl, rfl, by unfold Hid; rw [List.append_nil]; exact HO.out, HB0.out⟩
  case round =>
    obtain ⟨m, C, wr, rfl, hm, HC, rfl, HOK, hb⟩ := hrel
    cases m with
    | zero =>
      have HC2 : Hid (C = laidL v n) := by have := HC.out; unfold Hid; rwa [show laidL v 0 = [] from rfl, List.append_nil] at this
      go_wp2_with fail
      go_ret
      exact ⟨_, rfl, by rw [← HC2.out]; exact HOK.out, hb⟩
    | succ j =>
      have ej : ((j + 1 : Nat) : Int) - 1 = (j : Int) := by omega
      rw [ej]
      clear ej
      obtain ⟨x, hxe⟩ : ∃ x, x = v / 256 ^ j % 256 := ⟨_, rfl⟩
      have hx : x < 256 := by omega
      have HF : Hid (C ++ [x] ++ laidL v j = laidL v n) := by unfold Hid; rw [List.append_assoc, hxe]; exact HC.out
      have HX := hid hxe
      have HLE : Hid ((L ++ C).length + [x].length ≤ 140737488355328) := by
        unfold Hid
        have h1 := congrArg List.length HC.out
        rw [List.length_append, laidL_len, laidL_len] at h1
        rw [List.length_append]
        simp only [List.length_cons, List.length_nil]
        omega
      clear hxe
      go_wp2_with fail
      go_loopw [8, 9] (fun y k wv => ∃ (r : Nat) (wx : World), k = .int .i64 (r : Int) ∧ r ≤ j ∧ y = .int .i64 ((v / 256 ^ r : Nat) : Int) ∧ wx = wv ∧ wx = wr) (fun _ k _ => j - (intOf k).toNat)
      case atStart => exact ⟨0, _, rfl, by omega, by simp, rfl, rfl⟩
      case round =>
        obtain ⟨r, wx, rfl, hr, rfl, rfl, rfl⟩ := hrel
        have hq : v / 256 ^ r ≤ 9223372036854775807 := Nat.le_trans (Nat.div_le_self _ _) hv
        by_cases hlt : r < j
        · have HQ : Hid (v / 256 ^ (r + 1) = v / 256 ^ r / 256) := by unfold Hid; rw [Nat.pow_succ, Nat.div_div_eq_div_mul]
          generalize v / 256 ^ r = z at *
          have ez : (z : Int).tdiv 256 = ((z / 256 : Nat) : Int) := by rfl
          go_wp2_with fail
          go_roundw
          case rel => exact ⟨r + 1, _, by go_num, by omega, by rw [HQ.out]; go_num, rfl, rfl⟩
          case measure => simp [intOf]; omega
        · obtain rfl : r = j := by omega
          have HX2 := HX.out
          generalize v / 256 ^ r = z at *
          have ez : (z : Int).tmod 256 = (x : Int) := by rw [HX2]; rfl
          have ez2 : (z : Int) % 256 = (x : Int) := by omega
          clear HX2
          go_wp2_with (at_builtin; refine wpList_append_bytes rfl _ _ rfl w0.heap.size _ _ rfl (HOK.out.alloc _) _ [x] rfl (sees_one rfl x hx _) ?c1 ?c2 ?_)
          case c1 => exact HLE.out
          case c2 => have := hb.size; simp; omega
          · intro v' w2 ho hb2
            have ho' : OwnB w2 w0.heap.size v' (L ++ (C ++ [x])) := by simpa using ho
            have HO2 := hid ho'
            have hb3 : Below w0.heap.size w0 w2 := (hb.alloc hb.size _).trans hb2
            clear ho hb2 ho'
            go_wp2_with fail
            go_roundw
            case rel => exact ⟨r, C ++ [x], _, by go_num, by omega, HF, rfl, HO2, hb3⟩
            case measure => simp [intOf]
end Go.Proofs.Ytcelcnafcfefhaa.N
