/-
  The reference: CRC, four, join, Head.
-/
import Derived.Test.YteoebmpfdcbbmacDoorRB
namespace Jn
theorem xor_div2 (x y : Nat) : (x ^^^ y) / 2 = x / 2 ^^^ y / 2 := by
  have e : ∀ n : Nat, n / 2 = n >>> 1 := fun n => by rw [Nat.shiftRight_eq_div_pow]
  rw [e, e, e, Nat.shiftRight_xor_distrib]
theorem xor_mod2 (x y : Nat) : (x ^^^ y) % 2 = 1 ↔ ¬ (x % 2 = 1 ↔ y % 2 = 1) := by
  have h := Nat.testBit_xor x y 0
  rw [Nat.testBit_zero, Nat.testBit_zero, Nat.testBit_zero] at h
  by_cases hx : x % 2 = 1 <;> by_cases hy : y % 2 = 1 <;> simp [hx, hy] at h ⊢ <;> omega
/-- One bit leaves the register. -/
def bstep (r : Nat) : Nat := if r % 2 = 1 then (r / 2) ^^^ 3988292384 else r / 2
def bsteps : Nat → Nat → Nat
  | 0, r => r
  | n + 1, r => bsteps n (bstep r)
theorem bstep_xor (x y : Nat) : bstep (x ^^^ y) = bstep x ^^^ bstep y := by
  unfold bstep
  have h := xor_mod2 x y
  by_cases hx : x % 2 = 1 <;> by_cases hy : y % 2 = 1
  · rw [if_neg (by rw [h]; simp [hx, hy]), if_pos hx, if_pos hy, xor_div2]
    rw [Nat.xor_assoc, Nat.xor_comm (y / 2), ← Nat.xor_assoc 3988292384, Nat.xor_self, Nat.zero_xor]
  · rw [if_pos (by rw [h]; simp [hx, hy]), if_pos hx, if_neg hy, xor_div2, Nat.xor_assoc, Nat.xor_comm (y / 2), ← Nat.xor_assoc]
  · rw [if_pos (by rw [h]; simp [hx, hy]), if_neg hx, if_pos hy, xor_div2, Nat.xor_assoc]
  · rw [if_neg (by rw [h]; simp [hx, hy]), if_neg hx, if_neg hy, xor_div2]
theorem bsteps_xor : ∀ (n x y : Nat), bsteps n (x ^^^ y) = bsteps n x ^^^ bsteps n y
  | 0, _, _ => rfl
  | n + 1, x, y => by rw [bsteps, bstep_xor, bsteps_xor n]; rfl
theorem bsteps_add : ∀ (m n r : Nat), bsteps (m + n) r = bsteps n (bsteps m r)
  | 0, n, r => by rw [Nat.zero_add]; rfl
  | m + 1, n, r => by rw [Nat.succ_add, bsteps, bsteps_add m n]; rfl
theorem bsteps_snoc (n r : Nat) : bsteps (n + 1) r = bstep (bsteps n r) := by rw [bsteps_add]; rfl
theorem bstep_two (a : Nat) : bstep (2 * a) = a := by unfold bstep; rw [if_neg (by omega)]; omega
theorem bsteps_16 (q : Nat) : bsteps 4 (16 * q) = q := by
  rw [show 16 * q = 2 * (2 * (2 * (2 * q))) by omega]
  simp only [bsteps, bstep_two]
theorem bsteps_tab : ∀ t, t < 16 → bsteps 4 t = tab t := by decide +kernel
theorem split16 (r : Nat) : 16 * (r / 16) ^^^ (r % 16) = r := by
  apply Nat.eq_of_testBit_eq
  intro i
  rw [Nat.testBit_xor, show (16 : Nat) = 2 ^ 4 from rfl, Nat.testBit_two_pow_mul, Nat.testBit_mod_two_pow, Nat.testBit_div_two_pow]
  by_cases hi : i < 4
  · simp [hi, show ¬ (4 ≤ i) by omega]
  · simp [hi, show 4 ≤ i by omega]
theorem half_bits (r : Nat) : bsteps 4 r = half r := by
  conv => lhs; rw [← split16 r]
  rw [bsteps_xor, bsteps_16, bsteps_tab _ (Nat.mod_lt _ (by decide)), Nat.xor_comm]
  rfl
theorem step_bits (s x : Nat) : bsteps 8 (s ^^^ x) = step s x := by
  rw [show 8 = 4 + 4 from rfl, bsteps_add, half_bits, half_bits]
  rfl
theorem bstep_lt {r : Nat} (h : r < 4294967296) : bstep r < 4294967296 := by
  unfold bstep
  split
  · exact Nat.xor_lt_two_pow (n := 32) (by omega) (by decide)
  · omega
end Jn
namespace Go.Proofs.YteoebmpfdcbbmacDoor
open Go.ChangeShapes Go.WideShapes Go.ChangeAt Go.RowKit Jn N
set_option maxHeartbeats 4000000
set_option maxRecDepth 100000

theorem i64_xor_nat (a b : Nat) (ha : a < 4294967296) (hb : b < 4294967296) : bits .xor .i64 (a : Int) (b : Int) = ((a ^^^ b : Nat) : Int) := by
  have hx : a ^^^ b < 2 ^ 32 := Nat.xor_lt_two_pow (by omega) (by omega)
  show IntKind.i64.wrap ((BitVec.ofInt 64 (a : Int) ^^^ BitVec.ofInt 64 (b : Int)).toNat : Int) = _
  rw [BitVec.toNat_xor, ofInt_u64 a (by omega), ofInt_u64 b (by omega), IntKind.wrap_i64]
  omega

theorem not64 (s : Nat) (h : s < 4294967296) : bits .xor .i64 (s : Int) 4294967295 = ((4294967295 - s : Nat) : Int) := by
  rw [show (4294967295 : Int) = ((4294967295 : Nat) : Int) from rfl, i64_xor_nat s _ (by omega) (by decide)]
  congr 1
  have e1 : (BitVec.allOnes 32).toNat = 4294967295 := by decide
  have e2 : (BitVec.ofNat 32 s).toNat = s := by rw [BitVec.toNat_ofNat]; exact Nat.mod_eq_of_lt h
  have e3 : (BitVec.allOnes 32 ^^^ BitVec.ofNat 32 s).toNat = (~~~ BitVec.ofNat 32 s).toNat := by rw [BitVec.allOnes_xor]
  rw [BitVec.toNat_xor, e1, e2, BitVec.toNat_not, e2] at e3
  rw [Nat.xor_comm]
  exact e3

theorem crcR_any (v : Value) (L : List Nat) (w : World) (hv : SeesB w v L) :
    Calls Tryd.prog 65 #[v] w fun e w' => e = .returned (.int .i64 ((crc L : Nat) : Int)) ∧ w' = w := by
  obtain ⟨ao, n, cap, rfl, HN, hn1, hn2⟩ := hv.shape
  have HV := hid hv
  clear hv
  unfold maxLen at hn2
  go_enter Tryd.func65, Tryd.ntmps65
  go_wp2_with fail
  go_loop [3, 4, 5] (fun s i _ => ∃ (k t : Nat), i = .int .i64 k ∧ k ≤ n ∧ s = .int .i64 t ∧ t < 4294967296 ∧ Hid (t = reg 4294967295 (L.take k))) (fun _ i _ => n - (intOf i).toNat)
  case atStart => exact ⟨0, 4294967295, rfl, by omega, rfl, by omega, rfl⟩
  case round =>
    obtain ⟨k, s, rfl, hk, rfl, hs, HS⟩ := hrel
    by_cases hlt : k < n
    · obtain ⟨g, off, x, rfl, hg, hc, hx, HX⟩ := HV.out.at k hlt
      have HS2 : Hid (reg 4294967295 (L.take (k + 1)) = bsteps 8 (s ^^^ x)) := by
        unfold Hid; rw [take_snoc HX.out, reg_append, ← HS.out, step_bits]; rfl
      have x1 : bits .xor .i64 (s : Int) (x : Int) = ((s ^^^ x : Nat) : Int) := i64_xor_nat s x (by omega) (by omega)
      have l1 : s ^^^ x < 4294967296 := Nat.xor_lt_two_pow (n := 32) hs (by omega)
      generalize s ^^^ x = s1 at *
      clear HS HX
      go_wp2_with fail
      go_loop [3, 5] (fun t j => ∃ (i r : Nat), j = .int .i64 (i : Int) ∧ i ≤ 8 ∧ t = .int .i64 (r : Int) ∧ r < 4294967296 ∧ Hid (r = bsteps i s1)) (fun _ j => 8 - (intOf j).toNat)
      case atStart => exact ⟨0, s1, rfl, by omega, rfl, l1, rfl⟩
      case round =>
        obtain ⟨i, r, rfl, hi, rfl, hr, HR⟩ := hrel
        by_cases hi8 : i < 8
        · by_cases hodd : r % 2 = 1
          · have q1 : ((r : Int) % 2 == 1) = true := by simp; omega
            have x2 : bits .xor .i64 ((r / 2 : Nat) : Int) 3988292384 = ((r / 2 ^^^ 3988292384 : Nat) : Int) := i64_xor_nat (r / 2) 3988292384 (by omega) (by decide)
            have HR2 : Hid (r / 2 ^^^ 3988292384 = bsteps (i + 1) s1) := by unfold Hid; rw [bsteps_snoc, ← HR.out, bstep, if_pos hodd]
            have l2 : r / 2 ^^^ 3988292384 < 4294967296 := Nat.xor_lt_two_pow (n := 32) (by omega) (by decide)
            generalize r / 2 ^^^ 3988292384 = r2 at *
            have e2 : ((r / 2 : Nat) : Int) = (r : Int) / 2 := by omega
            rw [e2] at x2
            clear HR e2 hodd
            go_wp2_with fail
            go_round
            case rel => exact ⟨i + 1, r2, by go_num, by omega, by first | rfl | go_num, l2, HR2⟩
            case measure => simp [intOf]; omega
          · have q1 : ((r : Int) % 2 == 1) = false := by simp; omega
            have HR2 : Hid (r / 2 = bsteps (i + 1) s1) := by unfold Hid; rw [bsteps_snoc, ← HR.out, bstep, if_neg hodd]
            clear HR hodd
            go_wp2_with fail
            go_round
            case rel => exact ⟨i + 1, r / 2, by go_num, by omega, by go_num, by omega, HR2⟩
            case measure => simp [intOf]; omega
        · have HR8 : Hid (r = reg 4294967295 (L.take (k + 1))) := by
            unfold Hid; rw [HS2.out, HR.out, show i = 8 by omega]
          go_wp2_with fail
          go_round
          case rel => exact ⟨k + 1, r, by go_num, by omega, rfl, hr, HR8⟩
          case measure => simp [intOf]; omega
    · have HE : Hid (s = reg 4294967295 L) := by
        have := HS.out
        rw [List.take_of_length_le (by have := HN.out; omega)] at this
        exact this
      have hx := not64 s hs
      go_wp2_with fail
      go_ret
      exact ⟨ret_int (by unfold crc; rw [← HE.out]), rfl⟩

theorem four_any (n : Nat) (w : World) (hn : n < 4294967296) :
    Calls Tryd.prog 66 #[.int .i64 (n : Int)] w fun e w' => e = .returned (.slice (some ⟨w.heap.size, 0, none⟩) 4 4) ∧ Blk w' w.heap.size 5 (w4 n) ∧ Below w.heap.size w w' := by
  have q0 : (n : Int) / 16777216 = ((n / 16777216 % 256 : Nat) : Int) := by omega
  have q1 : (n : Int) / 65536 % 256 = ((n / 65536 % 256 : Nat) : Int) := by omega
  have q2 : (n : Int) / 256 % 256 = ((n / 256 % 256 : Nat) : Int) := by omega
  have q3 : (n : Int) % 256 = ((n % 256 : Nat) : Int) := by omega
  have HQ := hid (And.intro q0 (And.intro q1 (And.intro q2 q3)))
  clear q0 q1 q2 q3
  go_enter Tryd.func66, Tryd.ntmps66
  go_wp2_with fail
  go_ret
  refine ⟨rfl, ?_, (Below.refl _ _).alloc (Nat.le_refl _) _⟩
  unfold Blk
  rw [show (bs (w4 n)).toArray = #[.int .u8 ((n : Int) / 16777216), .int .u8 ((n : Int) / 65536 % 256), .int .u8 ((n : Int) / 256 % 256), .int .u8 ((n : Int) % 256)] by
    rw [HQ.out.1, HQ.out.2.1, HQ.out.2.2.1, HQ.out.2.2.2]; rfl]
  exact heap_alloc_new w _

theorem join_any (x y : Value) (A B : List Nat) (w : World) (hx : SeesB w x A) (hy : SeesB w y B) (hl : A.length + B.length ≤ 140737488355328) :
    Calls Tryd.prog 58 #[x, y] w fun e w' => ∃ v, e = .returned v ∧ OwnB w' w.heap.size v (A ++ B) ∧ Below w.heap.size w w' := by
  obtain ⟨a0, n0, c0, rfl, -, -, -⟩ := hx.shape
  obtain ⟨a1, n1, c1, rfl, -, -, -⟩ := hy.shape
  have HX := hid hx
  have HY := hid hy
  clear hx hy
  go_enter Tryd.func58, Tryd.ntmps58
  go_upto_region 3 with (at_builtin; refine wpList_append_bytes rfl _ _ rfl w.heap.size _ [] rfl (ownB_nil _ _) _ A rfl HX.out ?c1 ?c2 ?_)
  case c1 => simp; omega
  case c2 => exact Nat.le_refl _
  intro v1 w1 ho hb
  have HO := hid ho
  have HB := hid hb
  clear ho hb
  go_wp2_with (at_builtin; refine wpList_append_bytes rfl _ _ rfl w.heap.size _ A rfl HO.out _ B rfl (HY.out.below HB.out) ?d1 ?d2 ?_)
  case d1 => omega
  case d2 => exact HB.out.size
  intro v2 w2 ho2 hb2
  have HO2 := hid ho2
  have HB2 : Hid (Below w.heap.size w w2) := HB.out.trans hb2
  clear ho2 hb2
  go_wp2_with fail
  go_ret
  exact ⟨_, rfl, HO2.out, HB2.out⟩

theorem headR_any (g base : Nat) (w : World) (hg : g < 4294967296) (hb : base < 4294967296) :
    Calls Tryd.prog 43 #[.int .i64 (g : Int), .int .i64 (base : Int)] w fun e w' => ∃ v, e = .returned v ∧ OwnB w' w.heap.size v (head g base) ∧ Below w.heap.size w w' := by
  obtain ⟨w1, HW1⟩ : ∃ w1, Hid (w1 = w.alloc (.cells #[.int .u8 119, .int .u8 101, .int .u8 102, .int .u8 116] 5)) := ⟨_, rfl⟩
  have hb1 : Below w.heap.size w w1 := by rw [HW1.out]; exact (Below.refl _ _).alloc (Nat.le_refl _) _
  have q1 : Blk w1 w.heap.size 5 [119, 101, 102, 116] := by rw [HW1.out]; exact heap_alloc_new w _
  have H1 := hid (four_any g w1 hg)
  have HB1 := hid hb1
  have Q1 := hid q1
  clear hb1 q1
  go_enter Tryd.func43, Tryd.ntmps43
  go_wp2_with fail
  rw [← HW1.out]
  refine H1.out.mono ?_
  rintro _ w2 ⟨rfl, q2, hb2⟩
  have hB2 : Below w.heap.size w w2 := HB1.out.trans (hb2.mono HB1.out.size)
  have H2 := hid (join_any _ _ _ _ w2 ((Q1.out.below hb2 Q1.out.lt).sees (n := 4) rfl (by decide) (by decide)) (q2.sees (n := 4) rfl (by rw [w4_len]; omega) (w4_lt g)) (by rw [w4_len]; simp))
  have HB2 := hid hB2
  clear q2 hb2 hB2
  go_wp2_with fail
  refine H2.out.mono ?_
  rintro _ w3 ⟨v3, rfl, ho3, hb3⟩
  have hB3 : Below w.heap.size w w3 := HB2.out.trans (hb3.mono HB2.out.size)
  have hby : ∀ y ∈ [119, 101, 102, 116] ++ w4 g, y < 256 := by
    intro y hy
    rcases List.mem_append.1 hy with h | h
    · simp at h; omega
    · exact w4_lt _ y h
  have HS3 := hid (ho3.sees hby)
  have HB3 := hid hB3
  have H3 := hid (four_any base w3 hb)
  obtain ⟨a3, n3, c3, rfl, -, -, -⟩ := HS3.out.shape
  clear ho3 hb3 hB3
  go_wp2_with fail
  refine H3.out.mono ?_
  rintro _ w4' ⟨rfl, q4, hb4⟩
  have hB4 : Below w.heap.size w w4' := HB3.out.trans (hb4.mono HB3.out.size)
  have H4 := hid (join_any _ _ _ _ w4' (HS3.out.below hb4) (q4.sees (n := 4) rfl (by rw [w4_len]; omega) (w4_lt base)) (by rw [List.length_append, w4_len, w4_len]; simp))
  have HB4 := hid hB4
  clear q4 hb4 hB4
  go_wp2_with fail
  refine H4.out.mono ?_
  rintro _ w5 ⟨v5, rfl, ho5, hb5⟩
  have hB5 : Below w.heap.size w w5 := HB4.out.trans (hb5.mono HB4.out.size)
  have hS5 : SeesB w5 v5 (front g base) := ho5.sees (front_lt g base)
  have HS5 := hid hS5
  have HB5 := hid hB5
  have H5 := hid (crcR_any v5 _ w5 hS5)
  have H6 := hid (four_any (crc (front g base)) w5 (crc_lt _))
  obtain ⟨a5, n5, c5, rfl, -, -, -⟩ := hS5.shape
  clear ho5 hb5 hB5 hS5
  go_wp2_with fail
  refine H5.out.mono ?_
  rintro _ wx ⟨rfl, rfl⟩
  go_wp2_with fail
  refine H6.out.mono ?_
  rintro _ w6 ⟨rfl, q6, hb6⟩
  have hB6 : Below w.heap.size w w6 := HB5.out.trans (hb6.mono HB5.out.size)
  have H7 := hid (join_any _ _ _ _ w6 (HS5.out.below hb6) (q6.sees (n := 4) rfl (by rw [w4_len]; omega) (w4_lt _)) (by rw [w4_len, show (front g base).length = 12 from rfl]; omega))
  have HB6 := hid hB6
  clear q6 hb6 hB6
  go_wp2_with fail
  refine H7.out.mono ?_
  rintro _ w7 ⟨v7, rfl, ho7, hb7⟩
  have HF : Hid (OwnB w7 w.heap.size v7 (head g base) ∧ Below w.heap.size w w7) := ⟨ho7.mono HB6.out.size, HB6.out.trans (hb7.mono HB6.out.size)⟩
  clear ho7 hb7
  go_wp2_with fail
  go_ret
  exact ⟨_, rfl, HF.out.1, HF.out.2⟩
end Go.Proofs.YteoebmpfdcbbmacDoor
