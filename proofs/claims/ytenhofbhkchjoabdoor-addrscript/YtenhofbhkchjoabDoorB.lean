import Derived.Test.YtenhofbhkchjoabDoorA
namespace Go.Proofs.YtenhofbhkchjoabDoor
open Go.ChangeShapes Go.WideShapes Go.ChangeAt Go.RowKit
set_option maxHeartbeats 400000

/-- What is still to be read, ahead of part i. -/
def cont (i : Nat) (l : List UInt8) (acc : Nat) : Option Nat :=
  if i = 0 then S.aq 3 l acc
  else if i < 4 then (match l with | c :: t => if c = 46 then S.aq (3 - i) t acc else none | [] => none)
  else (match l with | [] => some acc | _ :: _ => none)

theorem aq_cont (k : Nat) (hk : k ≤ 3) (l : List UInt8) (acc : Nat) : S.aq k l acc = match S.num (S.run l) 255 with | some n => cont (4 - k) (l.dropWhile S.isDig) (acc * 256 + n) | none => none := by
  cases k with
  | zero =>
    simp only [S.aq]
    cases S.num (S.run l) 255 with
    | none => rfl
    | some n => cases l.dropWhile S.isDig <;> rfl
  | succ k =>
    simp only [S.aq]
    cases S.num (S.run l) 255 with
    | none => rfl
    | some n =>
      simp only
      unfold cont
      rw [if_neg (by omega), if_pos (by omega), show 3 - (4 - (k + 1)) = k from by omega]
      cases l.dropWhile S.isDig <;> rfl

/-- Reading one part: the number n of w letters. -/
theorem cont_step {t : Nat} (ht : t ≤ 3) {l : List UInt8} {acc : Nat} : (((S.lead l 255).2 = 0) → S.aq (3 - t) l acc = none) ∧ (((S.lead l 255).2 ≠ 0) → S.aq (3 - t) l acc = cont (t + 1) (l.drop (S.lead l 255).2) (acc * 256 + (S.lead l 255).1) ∧ (S.lead l 255).1 ≤ 255 ∧ (S.lead l 255).2 ≤ l.length) := by
  rw [S.lead_num l 255 (by omega), aq_cont (3 - t) (by omega)]
  cases e : S.num (S.run l) 255 with
  | none => exact ⟨fun _ => rfl, fun h => absurd rfl h⟩
  | some n =>
    have h1 := (S.num_some (by omega)).1 e
    have f := S.dec_facts (n := n) (by omega)
    rw [h1.2] at f
    refine ⟨fun h => ?_, fun _ => ⟨?_, h1.1, ?_⟩⟩
    · simp only at h; omega
    · simp only
      rw [show 4 - (3 - t) = t + 1 from by omega, show l.drop (S.run l).length = l.dropWhile S.isDig from S.take_drop_while S.isDig l]
    · have := congrArg List.length (S.split_run l)
      rw [List.length_append] at this
      simp only; omega

theorem or_part (acc n : Nat) (ha : acc < 16777216) (hn : n ≤ 255) : bits .or .u32 ((acc : Int) * 256) (n : Int) = ((acc * 256 + n : Nat) : Int) := by
  have h := u32_or_nat (acc * 256) n (by omega) (by omega)
  have e : acc * 256 ||| n = acc * 256 + n := by
    have := Nat.two_pow_add_eq_or_of_lt (i := 8) (b := n) (by omega) acc
    rw [show (2 : Nat) ^ 8 * acc = acc * 256 from by omega] at this
    exact this.symm
  rw [e] at h
  rw [← h]; simp

theorem sub_list (b : ByteArray) (i : Nat) : (b.extract i b.size).data.toList = b.data.toList.drop i := by
  simp; exact List.take_of_length_le (by simp)

theorem sub_size (b : ByteArray) (i : Nat) : (b.extract i b.size).size = b.size - i := by simp

/-- Parse's answer. -/
def ansA (o : Option Nat) : Value := match o with
  | some a => .tuple #[.int .u32 (a : Int), .int .i64 0]
  | none => .tuple #[.int .u32 0, .int .i64 10]

theorem ret_none {o : Option Nat} (h : o = none) : Ending.returned (.tuple #[.int .u32 0, .int .i64 10]) = .returned (ansA o) := by rw [h]; rfl
theorem ret_some {o : Option Nat} {a : Nat} (h : o = some a) : Ending.returned (.tuple #[.int .u32 (a : Int), .int .i64 0]) = .returned (ansA o) := by rw [h]; rfl

set_option maxHeartbeats 2000000 in
theorem parse_any (s : ByteArray) (w : World) (hs : s.size ≤ maxLen) :
    Calls Tryd.prog 12 #[.string s] w fun e w' => e = .returned (ansA (S.pa s.data.toList)) ∧ w' = w := by
  unfold maxLen at hs
  go_enter Tryd.func12, Tryd.ntmps12
  go_wp2
  go_loop [4, 5, 10] (fun a r i => ∃ (t acc : Nat) (b : ByteArray), i = .int .i64 t ∧ t ≤ 4 ∧ r = .string b ∧ a = .int .u32 acc ∧ b.size ≤ s.size ∧ Hid (acc < 256 ^ t) ∧ Hid (S.pa s.data.toList = cont t b.data.toList acc)) (fun _ _ i => 4 - (intOf i).toNat)
  case atStart => exact ⟨0, 0, s, rfl, by omega, rfl, rfl, by omega, by simp [Hid], by unfold Hid S.pa cont; rw [if_pos rfl]; exact (S.aq_rq 3 _ 0).symm⟩
  case round =>
    obtain ⟨t, acc, b, rfl, ht, rfl, rfl, hb, HA, HC⟩ := hrel
    by_cases ht4 : t < 4
    · have hacc : acc < 16777216 := by
        have h1 : 256 ^ t ≤ 256 ^ 3 := Nat.pow_le_pow_right (by omega) (by omega)
        have := HA.out; omega
      by_cases ht0 : t = 0
      · subst ht0
        have HQ : Hid (S.pa s.data.toList = S.aq (3 - 0) b.data.toList acc) := HC.out
        go_wp2_with fail
        refine (lead_any b 255 _ (by unfold maxLen; omega) (by omega)).mono ?_
        rintro e w1 ⟨rfl, rfl⟩
        obtain ⟨c1, c2⟩ := cont_step (t := 0) (by omega) (l := b.data.toList) (acc := acc)
        generalize (S.lead b.data.toList 255).1 = n at c1 c2 ⊢
        generalize (S.lead b.data.toList 255).2 = wd at c1 c2 ⊢
        by_cases hw0 : wd = 0
        · have HN := hid (HQ.out.trans (c1 hw0))
          subst hw0
          clear c1 c2
          go_wp2_with fail
          go_ret2
          exact ⟨ret_none HN.out, rfl⟩
        · obtain ⟨d1, d2, d3⟩ := c2 hw0
          have HN := hid (HQ.out.trans d1)
          have hor := or_part acc n hacc d2
          have hw1 : ((wd : Int) == 0) = false := by rw [beq_eq_false_iff_ne]; omega
          have hwd : wd ≤ b.size := by simpa using d3
          have HA2 : Hid (acc * 256 + n < 256 ^ (0 + 1)) := by
            have h1 := HA.out
            have h2 : (acc + 1) * 256 ≤ 256 ^ 0 * 256 := Nat.mul_le_mul_right _ h1
            rw [Nat.pow_succ]; unfold Hid; omega
          clear c1 c2 d1 d3
          go_wp2_with fail
          go_round
          case rel => exact ⟨0 + 1, acc * 256 + n, b.extract wd b.size, by go_num, by omega, rfl, by go_num, by rw [sub_size]; omega, HA2, by rw [sub_list]; exact HN.out⟩
          case measure => simp [intOf]
      · have htp : 0 < t := by omega
        have hb1 : b.data.toList.length = b.size := by simp
        by_cases hb0 : b.size = 0
        · have hnil : b.data.toList = [] := List.eq_nil_of_length_eq_zero (by omega)
          have hE : b.toList = [] := by rw [ByteArray.toList_eq]; exact hnil
          have HN : Hid (S.pa s.data.toList = none) := by
            have h1 := HC.out
            unfold Hid; rw [h1, hnil]; unfold cont; rw [if_neg (by omega), if_pos ht4]
          clear hnil hb1 hb0
          go_wp2_with fail
          go_ret2
          exact ⟨ret_none HN.out, rfl⟩
        · have hbp : 0 < b.size := by omega
          have hcons : b.data.toList = b[0] :: b.data.toList.drop 1 := by
            have := List.drop_eq_getElem_cons (l := b.data.toList) (i := 0) (by omega)
            rw [List.drop_zero] at this
            exact this
          have hE : b.toList.isEmpty = false := by rw [ByteArray.toList_eq, hcons]; rfl
          have HC2 : Hid (S.pa s.data.toList = if b[0] = 46 then S.aq (3 - t) (b.data.toList.drop 1) acc else none) := by
            have h1 := HC.out
            rw [hcons] at h1; unfold cont at h1; rw [if_neg (by omega), if_pos ht4] at h1
            unfold Hid; rw [h1]
          clear hcons hb1 HC
          by_cases h46 : (b[0]'hbp).toNat = 46
          · have he46 : b[0] = 46 := by rw [← UInt8.toNat_inj]; simpa using h46
            have hq : (((b[0]'hbp).toNat : Int) != 46) = false := by simp [h46]
            have HQ : Hid (S.pa s.data.toList = S.aq (3 - t) (b.extract 1 b.size).data.toList acc) := by
              have h1 := HC2.out
              rw [if_pos he46] at h1
              unfold Hid; rw [sub_list]; exact h1
            clear he46 h46 HC2
            go_wp2_with fail
            have hbs := sub_size b 1
            generalize b.extract 1 b.size = b' at HQ hbs ⊢
            have hbs' : b'.size ≤ s.size := by omega
            clear hbs
            refine (lead_any b' 255 _ (by unfold maxLen; omega) (by omega)).mono ?_
            rintro e w1 ⟨rfl, rfl⟩
            obtain ⟨c1, c2⟩ := cont_step (t := t) (by omega) (l := b'.data.toList) (acc := acc)
            generalize (S.lead b'.data.toList 255).1 = n at c1 c2 ⊢
            generalize (S.lead b'.data.toList 255).2 = wd at c1 c2 ⊢
            by_cases hw0 : wd = 0
            · have HN := hid (HQ.out.trans (c1 hw0))
              subst hw0
              clear c1 c2
              go_wp2_with fail
              go_ret2
              exact ⟨ret_none HN.out, rfl⟩
            · obtain ⟨d1, d2, d3⟩ := c2 hw0
              have HN := hid (HQ.out.trans d1)
              have hor := or_part acc n hacc d2
              have hw1 : ((wd : Int) == 0) = false := by rw [beq_eq_false_iff_ne]; omega
              have hwd : wd ≤ b'.size := by simpa using d3
              have HA2 : Hid (acc * 256 + n < 256 ^ (t + 1)) := by
                have h1 := HA.out
                have h2 : (acc + 1) * 256 ≤ 256 ^ t * 256 := Nat.mul_le_mul_right _ h1
                rw [Nat.pow_succ]; unfold Hid; omega
              clear c1 c2 d1 d3
              go_wp2_with fail
              go_round
              case rel => exact ⟨t + 1, acc * 256 + n, b'.extract wd b'.size, by go_num, by omega, rfl, by go_num, by rw [sub_size]; omega, HA2, by rw [sub_list]; exact HN.out⟩
              case measure => simp [intOf]; omega
          · have hq : (((b[0]'hbp).toNat : Int) != 46) = true := by rw [bne_iff_ne]; omega
            have HN : Hid (S.pa s.data.toList = none) := by
              have h1 := HC2.out
              rw [if_neg (fun e => h46 (by rw [e]; rfl))] at h1; exact h1
            clear h46 HC2
            go_wp2_with fail
            go_ret2
            exact ⟨ret_none HN.out, rfl⟩
    · obtain rfl : t = 4 := by omega
      have hacc : acc < 4294967296 := HA.out
      by_cases hb0 : b.size = 0
      · have hnil : b.data.toList = [] := List.eq_nil_of_length_eq_zero (by simpa using hb0)
        have hE : b.toList = [] := by rw [ByteArray.toList_eq]; exact hnil
        have HN : Hid (S.pa s.data.toList = some acc) := by have h1 := HC.out; rw [hnil] at h1; exact h1
        clear hnil hb0
        go_wp2_with fail
        go_ret2
        exact ⟨ret_some HN.out, rfl⟩
      · have hne : b.data.toList ≠ [] := by intro e; have := congrArg List.length e; simp at this; exact hb0 (by rw [this]; rfl)
        have hE2 : b.toList.isEmpty = false := by rw [ByteArray.toList_eq]; simpa using hne
        have HN : Hid (S.pa s.data.toList = none) := by
          have h1 := HC.out
          cases e : b.data.toList with
          | nil => exact absurd e hne
          | cons c t => rw [e] at h1; exact h1
        clear hne hb0
        go_wp2_with fail
        go_ret2
        exact ⟨ret_none HN.out, rfl⟩
end Go.Proofs.YtenhofbhkchjoabDoor
