import Derived.Test.YthpokoiclfbddaaDoorYNqG
namespace Go.Proofs.YthpokoiclfbddaaDoor.Nq
open Go.Proofs.YthpokoiclfbddaaDoor Go.ChangeShapes Go.WideShapes Go.ChangeAt Go.RowKit Go.Maps Fl
open Go.Proofs.YthpokoiclfbddaaDoor.N hiding But But.set But.of_below But.refl But.trans But.below But.drew wpList_ld
open Go.Shelf
set_option maxHeartbeats 2000000
set_option maxRecDepth 100000

section
variable {o : Oper} {a : Act} {w : World}
theorem ex_quoL (x y : Operand) (T' : TypeId) (p i : Nat) (hp : p < 65536) (hi : p / 64 = i) (ho : o.op = .binOp .quo 3 x y T') (hx : a.eval x = .int .i64 (p : Int)) (hy : a.eval y = .int .i64 64) : (execOp a.eval o).run Tryd.prog w = .ok (.value (.int .i64 (i : Int))) w := by
  rw [← hi]; exact ex_quo64 x y T' p ho hx hy hp
theorem ex_remL (x y : Operand) (T' : TypeId) (p i : Nat) (hi : p % 64 = i) (ho : o.op = .binOp .rem 3 x y T') (hx : a.eval x = .int .i64 (p : Int)) (hy : a.eval y = .int .i64 64) : (execOp a.eval o).run Tryd.prog w = .ok (.value (.int .i64 (i : Int))) w := by
  rw [← hi]; exact ex_rem64 x y T' p ho hx hy
theorem ex_shlL (x y : Operand) (T' : TypeId) (k z : Nat) (hk : k < 64) (hz : 2 ^ k = z) (ho : o.op = .binOp .shl 73 x y T') (hx : a.eval x = .int .u64 1) (hy : a.eval y = .int .i64 (k : Int)) : (execOp a.eval o).run Tryd.prog w = .ok (.value (.int .u64 (z : Int))) w := by
  rw [← hz]; exact ex_shl1 x y T' k hk ho hx hy
theorem ex_xorL (x y : Operand) (T' : TypeId) (i j z : Nat) (hi : i < 18446744073709551616) (hj : j < 18446744073709551616) (hz : i ^^^ j = z) (ho : o.op = .binOp .xor 73 x y T') (hx : a.eval x = .int .u64 (i : Int)) (hy : a.eval y = .int .u64 (j : Int)) : (execOp a.eval o).run Tryd.prog w = .ok (.value (.int .u64 (z : Int))) w := by
  rw [← hz]; exact ex_xorW x y T' i j hi hj ho hx hy
end
theorem turnP_any (b p : Nat) (W : List Nat) (c : Int) (w : World) (h : PsAt w b W c) (hW : PsW W) (hp : p < 65536) :
    Calls Tryd.prog 23 #[.pointer (some ⟨b, 0, none⟩), .int .i64 (p : Int)] w fun e w' => e = .returned (.tuple #[]) ∧ PsAt w' b (flip W p) c ∧ But b w w' := by
  have hiW : p / 64 < W.length := by rw [hW.len]; omega
  obtain ⟨k, HK⟩ : ∃ k, Hid (k = p % 64) := ⟨_, rfl⟩
  obtain ⟨i, HI⟩ : ∃ i, Hid (i = p / 64) := ⟨_, rfl⟩
  obtain ⟨x, HX⟩ : ∃ x, Hid (x = W.getD i 0) := ⟨_, rfl⟩
  obtain ⟨y, HY⟩ : ∃ y : Nat, Hid (y = 2 ^ k) := ⟨2 ^ k, hid rfl⟩
  obtain ⟨z, HZ⟩ : ∃ z, Hid (z = x ^^^ y) := ⟨_, rfl⟩
  have HKL : Hid (k < 64) := hid (by rw [HK.out]; omega)
  have HIL : Hid (i < 1024) := hid (by rw [HI.out]; omega)
  have HXL : Hid (x < 18446744073709551616) := hid (by rw [HX.out]; exact hW.at _)
  have HYL : Hid (y < 18446744073709551616) := hid (by
    have : 2 ^ k ≤ 2 ^ 63 := Nat.pow_le_pow_right (by omega) (by have := HKL.out; omega)
    rw [HY.out]; omega)
  have HCE : Hid (∀ u, Below w.heap.size w u → u.cell? ⟨b, i, none⟩ = some (.int .u64 (x : Int))) := fun u hu => by
    have h2 := PsAt.at h (hu.block b h.lt)
    rw [HX.out]
    exact h2.word (by rw [HI.out]; exact hiW)
  have HR : Hid (∀ u, Below w.heap.size w u → PsAt (u.setCell ⟨b, i, none⟩ (.int .u64 (z : Int))) b (flip W p) c ∧ But b w (u.setCell ⟨b, i, none⟩ (.int .u64 (z : Int)))) := fun u hu => by
    have h2 := PsAt.at h (hu.block b h.lt)
    refine ⟨?_, (But.of_below hu).trans (But.set _ _ _ _)⟩
    have := h2.setW (i := i) (by rw [HI.out]; exact hiW) z
    rw [HZ.out, HX.out, HY.out, HK.out, HI.out] at this
    rw [HZ.out, HX.out, HY.out, HK.out, HI.out]
    exact this
  have HFR : Hid (∀ u, Below w.heap.size w u → u.frozen? ⟨b, i, none⟩ = false) := fun u hu => (PsAt.at h (hu.block b h.lt)).free i
  have HP := hid hp
  clear h hW hp hiW
  go_enter Tryd.func23, Tryd.ntmps23
  go_upto_region 1 with fail
  refine wp_region_guarded' 14 (fun i => ([4, 5, 6, 7, 8, 9, 10, 11, 12, 13, 14, 15, 16, 17] : List Tmp).getD i 0) (Vs [.pointer (some ⟨b, 0, none⟩), .int .i64 (p : Int), .int .i64 (i : Int), .pointer (some ⟨b, 0, none⟩), .pointer (some ⟨b, 0, none⟩), .pointer (some ⟨b, i, none⟩), .int .u64 (x : Int), .int .i64 (p : Int), .int .i64 (k : Int), .int .u64 (y : Int), .int .u64 (z : Int), .pointer (some ⟨b, 0, none⟩), .pointer (some ⟨b, 0, none⟩), .pointer (some ⟨b, i, none⟩)]) (fun u => Below w.heap.size w u) (fun _ u u' => Below u.heap.size u u') (by kernel_rfl) (by kernel_rfl) ⟨rfl, rfl, rfl, Nat.le_refl _, fun _ _ => rfl⟩ (fun _ _ _ _ _ _ h _ _ => h) ?_ ?_
  · simp only [List.take_succ_cons, List.take_zero, stepsG]
    refine ⟨?_, ?_, ?_, ?_, ?_, ?_, ?_, ?_, ?_, ?_, ?_, ?_, ?_, ?_, trivial⟩
    · intro a u vs hI hold hdep
      exact opAt_plain rfl (wp_still (ex_move (.tmp 0) _ rfl (hold 0 (dlM (L := [4, 5, 6, 7, 8, 9, 10, 11, 12, 13, 14, 15, 16, 17]) (by decide)))) rfl rfl hI)
    · intro a u vs hI hold hdep
      exact opAt_plain rfl (wp_still (ex_move (.tmp 1) _ rfl (hold 1 (dlM (L := [4, 5, 6, 7, 8, 9, 10, 11, 12, 13, 14, 15, 16, 17]) (by decide)))) rfl rfl hI)
    · intro a u vs hI hold hdep
      exact opAt_plain rfl (wp_still (ex_quoL (.tmp 5) (.const (.int .i64 64)) _ p i HP.out HI.out.symm rfl (Vs.dep (hdep ⟨1, .data⟩ (by simp) rfl (by decide)) rfl) rfl) rfl rfl hI)
    · intro a u vs hI hold hdep
      exact opAt_plain rfl (wp_still (ex_nil ⟨b, 0, none⟩ (.tmp 4) rfl (Vs.dep (hdep ⟨0, .data⟩ (by simp) rfl (by decide)) rfl)) rfl rfl hI)
    · intro a u vs hI hold hdep
      exact opAt_plain rfl (wp_still (ex_field _ ⟨b, 0, none⟩ (.tmp 7) 0 _ rfl (Vs.dep (hdep ⟨3, .data⟩ (by simp) rfl (by decide)) rfl) ((ps_fl b u).1)) rfl rfl hI)
    · intro a u vs hI hold hdep
      exact opAt_plain rfl (wp_still (ex_index 74 (.tmp 8) (.tmp 6) _ _ _ rfl (Vs.dep (hdep ⟨4, .data⟩ (by simp) rfl (by decide)) rfl) (Vs.dep (hdep ⟨2, .data⟩ (by simp) rfl (by decide)) rfl) (idxS HIL.out u)) rfl rfl hI)
    · intro a u vs hI hold hdep
      exact opAt_plain rfl (wp_still (ex_load _ ⟨b, i, none⟩ (.tmp 9) _ rfl (Vs.dep (hdep ⟨5, .data⟩ (by simp) rfl (by decide)) rfl) (ldW (HCE.out u hI))) rfl rfl hI)
    · intro a u vs hI hold hdep
      exact opAt_plain rfl (wp_still (ex_move (.tmp 1) _ rfl (hold 1 (dlM (L := [4, 5, 6, 7, 8, 9, 10, 11, 12, 13, 14, 15, 16, 17]) (by decide)))) rfl rfl hI)
    · intro a u vs hI hold hdep
      exact opAt_plain rfl (wp_still (ex_remL (.tmp 11) (.const (.int .i64 64)) _ p k HK.out.symm rfl (Vs.dep (hdep ⟨7, .data⟩ (by simp) rfl (by decide)) rfl) rfl) rfl rfl hI)
    · intro a u vs hI hold hdep
      exact opAt_plain rfl (wp_still (ex_shlL (.const (.int .u64 1)) (.tmp 12) _ k y HKL.out HY.out.symm rfl rfl (Vs.dep (hdep ⟨8, .data⟩ (by simp) rfl (by decide)) rfl)) rfl rfl hI)
    · intro a u vs hI hold hdep
      exact opAt_plain rfl (wp_still (ex_xorL (.tmp 10) (.tmp 13) _ x y z HXL.out HYL.out HZ.out.symm rfl (Vs.dep (hdep ⟨6, .data⟩ (by simp) rfl (by decide)) rfl) (Vs.dep (hdep ⟨9, .data⟩ (by simp) rfl (by decide)) rfl)) rfl rfl hI)
    · intro a u vs hI hold hdep
      exact opAt_plain rfl (wp_still (ex_nil ⟨b, 0, none⟩ (.tmp 4) rfl (Vs.dep (hdep ⟨0, .data⟩ (by simp) rfl (by decide)) rfl)) rfl rfl hI)
    · intro a u vs hI hold hdep
      exact opAt_plain rfl (wp_still (ex_field _ ⟨b, 0, none⟩ (.tmp 15) 0 _ rfl (Vs.dep (hdep ⟨11, .data⟩ (by simp) rfl (by decide)) rfl) ((ps_fl b u).1)) rfl rfl hI)
    · intro a u vs hI hold hdep
      exact opAt_plain rfl (wp_still (ex_index 74 (.tmp 16) (.tmp 6) _ _ _ rfl (Vs.dep (hdep ⟨12, .data⟩ (by simp) rfl (by decide)) rfl) (Vs.dep (hdep ⟨2, .data⟩ (by simp) rfl (by decide)) rfl) (idxS HIL.out u)) rfl rfl hI)
  intro vs u1 hI hF
  have e0 : vs 0 = .pointer (some ⟨b, 0, none⟩) := (Option.some.inj (hF 0 (by decide))).symm
  have e1 : vs 1 = .int .i64 (p : Int) := (Option.some.inj (hF 1 (by decide))).symm
  have e2 : vs 2 = .int .i64 (i : Int) := (Option.some.inj (hF 2 (by decide))).symm
  have e3 : vs 3 = .pointer (some ⟨b, 0, none⟩) := (Option.some.inj (hF 3 (by decide))).symm
  have e4 : vs 4 = .pointer (some ⟨b, 0, none⟩) := (Option.some.inj (hF 4 (by decide))).symm
  have e5 : vs 5 = .pointer (some ⟨b, i, none⟩) := (Option.some.inj (hF 5 (by decide))).symm
  have e6 : vs 6 = .int .u64 (x : Int) := (Option.some.inj (hF 6 (by decide))).symm
  have e7 : vs 7 = .int .i64 (p : Int) := (Option.some.inj (hF 7 (by decide))).symm
  have e8 : vs 8 = .int .i64 (k : Int) := (Option.some.inj (hF 8 (by decide))).symm
  have e9 : vs 9 = .int .u64 (y : Int) := (Option.some.inj (hF 9 (by decide))).symm
  have e10 : vs 10 = .int .u64 (z : Int) := (Option.some.inj (hF 10 (by decide))).symm
  have e11 : vs 11 = .pointer (some ⟨b, 0, none⟩) := (Option.some.inj (hF 11 (by decide))).symm
  have e12 : vs 12 = .pointer (some ⟨b, 0, none⟩) := (Option.some.inj (hF 12 (by decide))).symm
  have e13 : vs 13 = .pointer (some ⟨b, i, none⟩) := (Option.some.inj (hF 13 (by decide))).symm
  clear hF
  simp only [List.drop_succ_cons, List.drop_zero, puts, List.range, List.range.loop, List.foldr, if_true, List.getD_cons_zero, List.getD_cons_succ, e0, e1, e2, e3, e4, e5, e6, e7, e8, e9, e10, e11, e12, e13, Act.put, List.setIfInBounds_toArray, List.set_cons_zero, List.set_cons_succ]
  clear e0 e1 e2 e3 e4 e5 e6 e7 e8 e9 e10 e11 e12 e13
  have f1 := HFR.out u1 hI
  have c1 := HCE.out u1 hI
  have hr := HR.out u1 hI
  clear hI HFR HCE HR
  go_wp2_with fail
  exact bodyPost_end (results_none Tryd.results23 _ _ _) rfl ⟨rfl, hr.1, hr.2⟩

/-! ### the first free port -/
theorem compl_bit {x : Nat} (hx : x < 18446744073709551616) {j : Nat} (hj : j < 64) : (18446744073709551615 - x).testBit j = !x.testBit j := by
  have := Nat.testBit_two_pow_sub_succ (n := 64) (x := x) hx j
  rw [show 2 ^ 64 - (x + 1) = 18446744073709551615 - x by omega] at this
  rw [this]
  simp [hj]
theorem compl_xor {x : Nat} (hx : x < 18446744073709551616) : 18446744073709551615 ^^^ x = 18446744073709551615 - x := by
  apply Nat.eq_of_testBit_eq
  intro j
  rw [Nat.testBit_xor, show 18446744073709551615 = 2 ^ 64 - 1 from rfl, Nat.testBit_two_pow_sub_one]
  by_cases hj : j < 64
  · rw [show 2 ^ 64 - 1 - x = 18446744073709551615 - x from rfl, compl_bit hx hj]
    simp [hj]
  · have h1 : 2 ^ 64 ≤ 2 ^ j := Nat.pow_le_pow_right (by omega) (by omega)
    rw [Nat.testBit_lt_two_pow (x := x) (by omega), Nat.testBit_lt_two_pow (x := 2 ^ 64 - 1 - x) (by omega)]
    simp [hj]
theorem free_none {x k : Nat} (hx : x < 18446744073709551616) (hF : (18446744073709551615 - x) / 2 ^ k = 0) : ∀ j, k ≤ j → j < 64 → x.testBit j = true := fun j h1 h2 => by
  have e := Nat.testBit_div_two_pow (n := k) (18446744073709551615 - x) (j - k)
  rw [hF, Nat.zero_testBit, show j - k + k = j by omega, compl_bit hx h2] at e
  cases hb : x.testBit j with
  | true => rfl
  | false => rw [hb] at e; cases e
theorem free_some {x k : Nat} (hx : x < 18446744073709551616) (hF : (18446744073709551615 - x) / 2 ^ k ≠ 0) :
    k + Lib.ctz 64 ((18446744073709551615 - x) / 2 ^ k) < 64 ∧ x.testBit (k + Lib.ctz 64 ((18446744073709551615 - x) / 2 ^ k)) = false ∧ ∀ j, k ≤ j → j < k + Lib.ctz 64 ((18446744073709551615 - x) / 2 ^ k) → x.testBit j = true := by
  have hb : ∀ j, ((18446744073709551615 - x) / 2 ^ k).testBit j = (18446744073709551615 - x).testBit (j + k) := fun j => Nat.testBit_div_two_pow _ _
  have hlt : (18446744073709551615 - x) / 2 ^ k < 2 ^ 64 := Nat.lt_of_le_of_lt (Nat.div_le_self _ _) (by omega)
  obtain ⟨m, hm, hz⟩ := Lib.ctzFrom_spec 64 _ (Nat.pos_of_ne_zero hF) hlt
  have hc : Lib.ctz 64 ((18446744073709551615 - x) / 2 ^ k) = Lib.ctzFrom 64 ((18446744073709551615 - x) / 2 ^ k) := if_neg hF
  rw [← hc] at hm hz
  generalize Lib.ctz 64 ((18446744073709551615 - x) / 2 ^ k) = z at *
  generalize (18446744073709551615 - x) / 2 ^ k = F at *
  have hbit : F.testBit z = true := by
    rw [hm, Nat.testBit_two_pow_mul]
    simp
  have hlow : ∀ j, j < z → F.testBit j = false := fun j hj => by
    rw [hm, Nat.testBit_two_pow_mul]
    simp; omega
  have hkz : z + k < 64 := by
    rw [hb] at hbit
    have := Nat.ge_two_pow_of_testBit hbit
    rcases Nat.lt_or_ge (z + k) 64 with h | h
    · exact h
    · have := Nat.pow_le_pow_right (n := 2) (by omega) h
      omega
  refine ⟨by omega, ?_, fun j h1 h2 => ?_⟩
  · rw [hb, compl_bit hx hkz] at hbit
    rw [Nat.add_comm]
    simpa using hbit
  · have := hlow (j - k) (by omega)
    rw [hb, show j - k + k = j by omega, compl_bit hx (by omega)] at this
    simpa using this
section
variable {o : Oper} {a : Act} {w : World}
theorem ex_compl (x : Operand) (i : Nat) (hi : i < 18446744073709551616) (ho : o.op = .unOp .xor 73 x) (hx : a.eval x = .int .u64 (i : Int)) : (execOp a.eval o).run Tryd.prog w = .ok (.value (.int .u64 ((18446744073709551615 - i : Nat) : Int))) w := by
  have hb := bits_xor_u64_nat 18446744073709551615 i (by decide) hi
  rw [compl_xor hi] at hb
  generalize 18446744073709551615 - i = z at *
  have hb2 : bits .xor .u64 (if IntKind.u64.signed = true then -1 else IntKind.u64.max) (i : Int) = (z : Int) := hb
  unfold execOp
  simp only [ho, hx]
  simp [go_sem, hb2]
theorem ex_shrL (x y : Operand) (T' : TypeId) (i k F : Nat) (hk : k < 64) (hF : i / 2 ^ k = F) (ho : o.op = .binOp .shr 73 x y T') (hx : a.eval x = .int .u64 (i : Int)) (hy : a.eval y = .int .i64 (k : Int)) : (execOp a.eval o).run Tryd.prog w = .ok (.value (.int .u64 (F : Int))) w := by
  rw [← hF]; exact ex_shrV x y T' i k hk ho hx hy
end
theorem tk_word (W : List Nat) {i p : Nat} (h : p / 64 = i / 64) : tk W p = (W.getD (i / 64) 0).testBit (p % 64) := by unfold tk; rw [h]

/-- What a search from m to n answers. -/
def FF (W : List Nat) (m n : Nat) (e : Ending) : Prop := ∃ (r : Int) (ok : Bool), e = .returned (.tuple #[.int .i64 r, .bool ok]) ∧
  (ok = true → ∃ q : Nat, r = q ∧ m ≤ q ∧ q ≤ n ∧ tk W q = false ∧ ∀ p, m ≤ p → p < q → tk W p = true) ∧ (ok = false → ∀ p, m ≤ p → p ≤ n → tk W p = true)
theorem firstFree_any (b m n : Nat) (W : List Nat) (c : Int) (w : World) (h : PsAt w b W c) (hW : PsW W) (hm : m < 65536) (hn : n < 65536) (hT : TabAt 0 Lib.deBruijn64tab w) :
    Calls Tryd.prog 41 #[.pointer (some ⟨b, 0, none⟩), .int .i64 (m : Int), .int .i64 (n : Int)] w fun e w' => FF W m n e ∧ w' = w := by
  have HTZ : Hid (∀ x : Nat, x < 18446744073709551616 → Calls Tryd.prog 63 #[.int .u64 (x : Int)] w fun e w' => e = .returned (.int .i64 (Lib.ctz 64 x)) ∧ w' = w) := fun x hx => Any7.bits_TrailingZeros64 Tryd.layTz x hx w fun _ => hT
  have HCE : Hid (∀ i, i < 65536 → w.cell? ⟨b, i / 64, none⟩ = some (.int .u64 ((W.getD (i / 64) 0 : Nat) : Int))) := fun i hi => h.word (by rw [hW.len]; omega)
  have HWL : Hid (∀ i, W.getD i 0 < 18446744073709551616) := fun i => hW.at i
  have HMN := hid (And.intro hm hn)
  clear h hW hm hn hT
  go_enter Tryd.func41, Tryd.ntmps41
  go_wp2_with fail
  go_loopw [1] (fun iv wr => ∃ i : Nat, iv = .int .i64 (i : Int) ∧ m ≤ i ∧ i ≤ 65536 ∧ wr = w ∧ Hid (∀ p, m ≤ p → p < i → tk W p = true)) (fun iv _ => match iv with | .int _ z => 65536 - z.toNat | _ => 0)
  case atStart => exact ⟨m, rfl, Nat.le_refl _, by have := HMN.out.1; omega, by first | rfl | trivial, fun p h1 h2 => absurd h1 (by omega)⟩
  case round =>
    obtain ⟨i, rfl, hmi, hi, rfl, HA⟩ := hrel
    by_cases hin : i ≤ n
    · have h1 : (i : Int) ≤ (n : Int) := by omega
      have hi2 : i < 65536 := by have := HMN.out.2; omega
      have ce := HCE.out i hi2
      have e2 := tdiv64 i
      have e3 := tmod64 i
      have hx := HWL.out (i / 64)
      obtain ⟨x, HX⟩ : ∃ x, Hid (x = W.getD (i / 64) 0) := ⟨_, rfl⟩
      obtain ⟨k, HK⟩ : ∃ x, Hid (x = i % 64) := ⟨_, rfl⟩
      obtain ⟨q, HQ⟩ : ∃ x, Hid (x = i / 64) := ⟨_, rfl⟩
      rw [← HX.out] at ce hx
      rw [← HQ.out] at ce e2
      rw [← HK.out] at e3
      have HXL := hid hx
      have HKL : Hid (k < 64) := hid (by rw [HK.out]; omega)
      have e1 : (i : Int) / 64 = (q : Int) := by rw [HQ.out]; omega
      have hq1 : (q : Int) < 1024 := by have := HQ.out; omega
      have hq2 : (0 : Int) ≤ (q : Int) := by omega
      have hk1 : (0 : Int) ≤ (k : Int) := by omega
      have hk2 : (k : Int) < 64 := by have := HKL.out; omega
      have HTW : Hid (∀ p, p / 64 = i / 64 → tk W p = x.testBit (p % 64)) := fun p hp => by rw [HX.out]; exact tk_word W hp
      obtain ⟨F, HF⟩ : ∃ F, Hid ((18446744073709551615 - x) / 2 ^ k = F) := ⟨_, rfl⟩
      clear hx
      by_cases hF : F = 0
      · subst hF
        have HN := hid (free_none HXL.out HF.out)
        obtain ⟨y, hy⟩ : ∃ y, y = 64 - k := ⟨_, rfl⟩
        have w1 : IntKind.i64.wrap (64 - (k : Int)) = (y : Int) := by rw [IntKind.wrap_i64]; have := HKL.out; omega
        obtain ⟨j, hj⟩ : ∃ j, j = i + y := ⟨_, rfl⟩
        have w2 : IntKind.i64.wrap ((i : Int) + (y : Int)) = (j : Int) := by rw [IntKind.wrap_i64]; have := HKL.out; omega
        have HJ : Hid (i < j ∧ j ≤ 65536 ∧ j = i + (64 - i % 64)) := hid (by have := HKL.out; have := HK.out; omega)
        have HA2 : Hid (∀ p, m ≤ p → p < j → tk W p = true) := fun p h1 h2 => by
          by_cases hpi : p < i
          · exact HA.out p h1 hpi
          · have := HJ.out
            rw [HTW.out p (by omega)]
            exact HN.out _ (by rw [HK.out]; omega) (by omega)
        clear hy hj hin HA HTW HN
        go_wp2_with (first | (refine wpList_val (ex_compl (.tmp 19) x HXL.out rfl rfl) rfl ?_) | (refine wpList_val (ex_shrL (.tmp 20) (.tmp 22) _ _ k 0 HKL.out HF.out rfl rfl rfl) rfl ?_) | fail)
        go_roundw
        case rel => exact ⟨j, rfl, by have := HJ.out; omega, HJ.out.2.1, by first | rfl | trivial, HA2⟩
        case measure => have := HJ.out; simp; omega
      · have hF0 : ¬ (F : Int) = 0 := by omega
        have HS := hid (free_some HXL.out (by rw [HF.out]; exact hF))
        rw [HF.out] at HS
        have HFL : Hid (F < 18446744073709551616) := hid (by rw [← HF.out]; exact Nat.lt_of_le_of_lt (Nat.div_le_self _ _) (by omega))
        have HC := hid (HTZ.out F HFL.out)
        generalize Lib.ctz 64 F = z at *
        obtain ⟨g, hg⟩ : ∃ g, g = i + z := ⟨_, rfl⟩
        have w2 : IntKind.i64.wrap ((i : Int) + (z : Int)) = (g : Int) := by rw [IntKind.wrap_i64]; have := HS.out.1; omega
        have HR : Hid (i ≤ g ∧ tk W g = false ∧ ∀ p, m ≤ p → p < g → tk W p = true) := by
          have hs1 := HS.out.1
          have hk := HK.out
          have hgd : g / 64 = i / 64 ∧ g % 64 = k + z := by omega
          refine ⟨by omega, ?_, fun p h1 h2 => ?_⟩
          · rw [HTW.out g hgd.1, hgd.2]; exact HS.out.2.1
          · by_cases hpi : p < i
            · exact HA.out p h1 hpi
            · rw [HTW.out p (by omega)]
              exact HS.out.2.2 _ (by omega) (by omega)
        clear hg hin HA HTW HS hF
        go_wp2_with (first | (refine wpList_val (ex_compl (.tmp 19) x HXL.out rfl rfl) rfl ?_) | (refine wpList_val (ex_shrL (.tmp 20) (.tmp 22) _ _ k F HKL.out HF.out rfl rfl rfl) rfl ?_) | fail)
        refine HC.out.mono ?_
        rintro _ _ ⟨rfl, rfl⟩
        by_cases hgn : g ≤ n
        · have h2 : (g : Int) ≤ (n : Int) := by omega
          go_wp2_with fail
          refine bodyPost_ret (results_tmp2 Tryd.results41 _ _ _) rfl ⟨⟨(g : Int), true, rfl, fun _ => ⟨g, rfl, by have := HR.out.1; omega, hgn, HR.out.2⟩, fun h => by cases h⟩, rfl⟩
        · have h2 : ¬ (g : Int) ≤ (n : Int) := by omega
          go_wp2_with fail
          refine bodyPost_ret (results_tmp2 Tryd.results41 _ _ _) rfl ⟨⟨(g : Int), false, rfl, fun h => (by cases h), fun _ p h1 h3 => HR.out.2.2 p h1 (by omega)⟩, rfl⟩
    · have h1 : ¬ (i : Int) ≤ (n : Int) := by omega
      go_wp2_with fail
      refine bodyPost_ret (results_tmp2 Tryd.results41 _ _ _) rfl ⟨⟨0, false, rfl, fun h => (by cases h), fun _ p h2 h3 => HA.out p h2 (by omega)⟩, rfl⟩
end Go.Proofs.YthpokoiclfbddaaDoor.Nq
