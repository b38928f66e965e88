import Derived.Test.YtenhofbhkchjoabDoorC
namespace Go.Proofs.YtenhofbhkchjoabDoor
open Go.ChangeShapes Go.WideShapes Go.ChangeAt Go.RowKit
set_option maxHeartbeats 400000

theorem notc_dot : notc 46 = S.nodot := by
  funext x
  unfold notc S.nodot
  congr 1
  apply propext
  constructor
  · intro h e; exact h (by rw [e]; rfl)
  · intro h e; exact h (by rw [← UInt8.toNat_inj]; simpa using e)

def rcont (t : Nat) (l : List UInt8) (acc : Nat) : Option Nat := if t < 4 then S.rq (3 - t) l acc else some acc

theorem upTo_le (l : List UInt8) (p c : Nat) (hp : p ≤ l.length) : p ≤ upTo l p c ∧ upTo l p c ≤ l.length := by
  unfold upTo
  have : ((l.drop p).takeWhile (notc c)).length ≤ (l.drop p).length := (List.takeWhile_sublist _).length_le
  rw [List.length_drop] at this
  omega

/-- The text between p and the next dot. -/
theorem rq_step {t : Nat} (ht : t ≤ 3) (l : List UInt8) (p acc : Nat) (hp : p ≤ l.length) (pc : List UInt8) (hpc : pc = (l.drop p).take (upTo l p 46 - p)) :
    (S.num pc 255 = none → S.rq (3 - t) (l.drop p) acc = none) ∧
    (t < 3 → ¬ upTo l p 46 < l.length → S.rq (3 - t) (l.drop p) acc = none) ∧
    (t = 3 → upTo l p 46 < l.length → S.rq (3 - t) (l.drop p) acc = none) ∧
    (∀ n, S.num pc 255 = some n → (t < 3 ↔ upTo l p 46 < l.length) → S.rq (3 - t) (l.drop p) acc = rcont (t + 1) (l.drop (upTo l p 46 + 1)) (acc * 256 + n)) := by
  have hpc' : S.piece (l.drop p) = pc := by
    rw [hpc]; unfold upTo S.piece
    rw [notc_dot, show p + ((l.drop p).takeWhile S.nodot).length - p = ((l.drop p).takeWhile S.nodot).length from by omega]
    exact (List.prefix_iff_eq_take.1 (List.takeWhile_prefix _))
  have hd : (l.drop p).dropWhile S.nodot = l.drop (upTo l p 46) := by
    unfold upTo; rw [notc_dot, ← S.take_drop_while, List.drop_drop]
  obtain ⟨_, hle⟩ := upTo_le l p 46 hp
  have hnil : ¬ upTo l p 46 < l.length → l.drop (upTo l p 46) = [] := fun h => List.drop_eq_nil_of_le (by omega)
  have hcons : upTo l p 46 < l.length → ∃ c, l.drop (upTo l p 46) = c :: l.drop (upTo l p 46 + 1) := fun h => ⟨_, List.drop_eq_getElem_cons h⟩
  have e3 : t < 3 → 3 - t = (2 - t) + 1 := fun h => by omega
  refine ⟨fun h => ?_, fun h1 h2 => ?_, fun h1 h2 => ?_, fun n h h1 => ?_⟩
  · rcases Nat.lt_or_ge t 3 with g | g
    · rw [e3 g]; simp only [S.rq]; rw [hpc', h]
    · rw [show 3 - t = 0 from by omega]; simp only [S.rq]; rw [hpc', h]
  · rw [e3 h1]; simp only [S.rq]; rw [hd, hnil h2]
    cases S.num (S.piece (l.drop p)) 255 <;> rfl
  · rw [show 3 - t = 0 from by omega]; simp only [S.rq]; rw [hd]
    obtain ⟨c, hc⟩ := hcons h2
    rw [hc]
    cases S.num (S.piece (l.drop p)) 255 <;> rfl
  · rcases Nat.lt_or_ge t 3 with g | g
    · obtain ⟨c, hc⟩ := hcons (h1.1 g)
      rw [e3 g]; simp only [S.rq]; rw [hd, hpc', h, hc]
      unfold rcont; rw [if_pos (by omega), show 3 - (t + 1) = 2 - t from by omega]
    · have h2 : ¬ upTo l p 46 < l.length := fun e => by have := h1.2 e; omega
      rw [show 3 - t = 0 from by omega]; simp only [S.rq]; rw [hd, hpc', h, hnil h2]
      unfold rcont; rw [if_neg (by omega)]

theorem ext_list (b : ByteArray) (i j : Nat) : (b.extract i j).data.toList = (b.data.toList.drop i).take (j - i) := by
  simp

theorem ext_size (b : ByteArray) (i j : Nat) (hj : j ≤ b.size) : (b.extract i j).size = j - i := by simp; omega

set_option maxHeartbeats 2000000 in
theorem refParse_any (s : ByteArray) (w : World) (hs : s.size ≤ maxLen) (ht : Tab w) :
    Calls Tryd.prog 13 #[.string s] w fun e w' => e = .returned (ansA (S.pa s.data.toList)) ∧ Below w.heap.size w w' := by
  unfold maxLen at hs
  have HL : Hid (s.data.toList.length = s.size) := by simp [Hid]
  have HTB := hid ht
  clear ht
  by_cases h15 : 15 < s.size
  · have HN : Hid (S.pa s.data.toList = none) := by
      unfold Hid
      cases e : S.pa s.data.toList with
      | none => rfl
      | some a => have := (S.pa_len e).1; rw [HL.out] at this; omega
    go_enter Tryd.func13, Tryd.ntmps13
    go_wp2
    go_ret2
    exact ⟨ret_none HN.out, Below.refl _ _⟩
  · go_enter Tryd.func13, Tryd.ntmps13
    go_wp2_with fail
    go_loopw [4, 5, 6] (fun a r i wr => ∃ (t acc p : Nat), i = .int .i64 t ∧ t ≤ 4 ∧ r = .int .i64 p ∧ a = .int .i64 acc ∧ acc < 4294967296 ∧ (t < 4 → p ≤ s.size) ∧ Hid (acc < 256 ^ t) ∧ Hid (S.pa s.data.toList = rcont t (s.data.toList.drop p) acc) ∧ Below w.heap.size w wr) (fun _ _ i _ => 4 - (intOf i).toNat)
    case atStart => exact ⟨0, 0, 0, rfl, by omega, rfl, rfl, by omega, by omega, by simp [Hid], rfl, Below.refl _ _⟩
    case round =>
      obtain ⟨t, acc, p, rfl, ht, rfl, rfl, hacc0, hp0, HA, HC, hbr⟩ := hrel
      by_cases ht4 : t < 4
      · have hp := hp0 ht4
        have hacc : acc < 16777216 := by
          have h1 : 256 ^ t ≤ 256 ^ 3 := Nat.pow_le_pow_right (by omega) (by omega)
          have := HA.out; omega
        have HQ : Hid (S.pa s.data.toList = S.rq (3 - t) (s.data.toList.drop p) acc) := by
          have h1 := HC.out
          unfold rcont at h1; rw [if_pos ht4] at h1; exact h1
        have HST := hid (rq_step (t := t) (by omega) s.data.toList p acc (by rw [HL.out]; exact hp) _ rfl)
        have hul := upTo_le s.data.toList p 46 (by rw [HL.out]; exact hp)
        rw [HL.out] at hul HST
        have hu1 := hul.1
        have hu2 := hul.2
        clear hp0 hul HC
        go_wp2_with fail
        refine (until_any s p 46 _ (by unfold maxLen; omega) hp).mono ?_
        rintro e w1 ⟨rfl, rfl⟩
        generalize upTo s.data.toList p 46 = to at HST hu1 hu2 ⊢
        by_cases hto : to < s.size
        · have hd1 : decide ((to : Int) < (s.size : Int)) = true := by simp; omega
          by_cases ht3 : t < 3
          · have hd2 : decide ((t : Int) < 3) = true := by simp; omega
            go_wp2_with fail
            have hps := ext_size s p to hu2
            have hpl := ext_list s p to
            generalize s.extract p to = pc at hps hpl ⊢
            have hps' : pc.size ≤ s.size := by omega
            clear hps
            rw [← hpl] at HST
            clear hpl
            refine (number_any pc 255 _ (by unfold maxLen; omega) (by omega) (HTB.out.below hbr)).mono ?_
            rintro e w2 ⟨rfl, hb2⟩
            have hbz := hbr.trans (hb2.mono hbr.size)
            cases hnum : S.num pc.data.toList 255 with
            | none =>
              have HN := hid (HQ.out.trans (HST.out.1 hnum))
              simp only [numI]
              clear hnum HST
              go_wp2_with fail
              go_ret2
              exact ⟨ret_none HN.out, hbz⟩
            | some n =>
              have HN := hid (HQ.out.trans (HST.out.2.2.2 n hnum (by omega)))
              have hn := (S.num_len hnum).2
              simp only [numI]
              have HA2 : Hid (acc * 256 + n < 256 ^ (t + 1)) := by
                have h1 := HA.out
                have h2 : (acc + 1) * 256 ≤ 256 ^ t * 256 := Nat.mul_le_mul_right _ h1
                rw [Nat.pow_succ]; unfold Hid; omega
              clear hnum HST
              go_wp2_with fail
              go_roundw
              case rel => exact ⟨t + 1, acc * 256 + n, to + 1, by go_num, by omega, by go_num, by go_num, by omega, by omega, HA2, HN, hbz⟩
              case measure => simp [intOf]; omega
          · have hd2 : decide ((t : Int) < 3) = false := by simp; omega
            have HN := hid (HQ.out.trans (HST.out.2.2.1 (by omega) hto))
            clear HST
            go_wp2_with fail
            go_ret2
            exact ⟨ret_none HN.out, hbr⟩
        · have hd1 : decide ((to : Int) < (s.size : Int)) = false := by simp; omega
          by_cases ht3 : t < 3
          · have hd2 : decide ((t : Int) < 3) = true := by simp; omega
            have HN := hid (HQ.out.trans (HST.out.2.1 ht3 hto))
            clear HST
            go_wp2_with fail
            go_ret2
            exact ⟨ret_none HN.out, hbr⟩
          · have hd2 : decide ((t : Int) < 3) = false := by simp; omega
            go_wp2_with fail
            have hps := ext_size s p to hu2
            have hpl := ext_list s p to
            generalize s.extract p to = pc at hps hpl ⊢
            have hps' : pc.size ≤ s.size := by omega
            clear hps
            rw [← hpl] at HST
            clear hpl
            refine (number_any pc 255 _ (by unfold maxLen; omega) (by omega) (HTB.out.below hbr)).mono ?_
            rintro e w2 ⟨rfl, hb2⟩
            have hbz := hbr.trans (hb2.mono hbr.size)
            cases hnum : S.num pc.data.toList 255 with
            | none =>
              have HN := hid (HQ.out.trans (HST.out.1 hnum))
              simp only [numI]
              clear hnum HST
              go_wp2_with fail
              go_ret2
              exact ⟨ret_none HN.out, hbz⟩
            | some n =>
              have HN := hid (HQ.out.trans (HST.out.2.2.2 n hnum (by omega)))
              have hn := (S.num_len hnum).2
              simp only [numI]
              have HA2 : Hid (acc * 256 + n < 256 ^ (t + 1)) := by
                have h1 := HA.out
                have h2 : (acc + 1) * 256 ≤ 256 ^ t * 256 := Nat.mul_le_mul_right _ h1
                rw [Nat.pow_succ]; unfold Hid; omega
              clear hnum HST
              go_wp2_with fail
              go_roundw
              case rel => exact ⟨t + 1, acc * 256 + n, to + 1, by go_num, by omega, by go_num, by go_num, by omega, by omega, HA2, HN, hbz⟩
              case measure => simp [intOf]; omega
      · obtain rfl : t = 4 := by omega
        have HN : Hid (S.pa s.data.toList = some acc) := HC.out
        go_wp2_with fail
        go_ret2
        exact ⟨ret_some HN.out, hbr⟩
end Go.Proofs.YtenhofbhkchjoabDoor
