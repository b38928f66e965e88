import Derived.Test.YtenhofbhkchjoaaDoorC
namespace Go.Proofs.YtenhofbhkchjoaaDoor
open Go.ChangeShapes Go.WideShapes Go.ChangeAt Go.RowKit
set_option maxHeartbeats 400000

theorem notc_dot : notc 46 = S.nodot := by
  funext x
  unfold notc S.nodot
  congr 1
  apply propext
  constructor
  · intro h e; exact h (by rw [e]; rfl)
  · intro h e; exact h (by rw [← UInt8.toNat_inj]; simpa using e)

def rcont (t : Nat) (l : List UInt8) (acc : Nat) : Option Nat := if t < 4 then S.rq (3 - t) l acc else some acc

theorem upTo_le (l : List UInt8) (p c : Nat) (hp : p ≤ l.length) : p ≤ upTo l p c ∧ upTo l p c ≤ l.length := by
  unfold upTo
  have : ((l.drop p).takeWhile (notc c)).length ≤ (l.drop p).length := (List.takeWhile_sublist _).length_le
  rw [List.length_drop] at this
  omega

/-- The text between p and the next dot. -/
theorem rq_step {t : Nat} (ht : t ≤ 3) (l : List UInt8) (p acc : Nat) (hp : p ≤ l.length) (pc : List UInt8) (hpc : pc = (l.drop p).take (upTo l p 46 - p)) :
    (S.num pc 255 = none → S.rq (3 - t) (l.drop p) acc = none) ∧
    (t < 3 → ¬ upTo l p 46 < l.length → S.rq (3 - t) (l.drop p) acc = none) ∧
    (t = 3 → upTo l p 46 < l.length → S.rq (3 - t) (l.drop p) acc = none) ∧
    (∀ n, S.num pc 255 = some n → (t < 3 ↔ upTo l p 46 < l.length) → S.rq (3 - t) (l.drop p) acc = rcont (t + 1) (l.drop (upTo l p 46 + 1)) (acc * 256 + n)) := by
  have hpc' : S.piece (l.drop p) = pc := by
    rw [hpc]; unfold upTo S.piece
    rw [notc_dot, show p + ((l.drop p).takeWhile S.nodot).length - p = ((l.drop p).takeWhile S.nodot).length from by omega]
    exact (List.prefix_iff_eq_take.1 (List.takeWhile_prefix _))
  have hd : (l.drop p).dropWhile S.nodot = l.drop (upTo l p 46) := by
    unfold upTo; rw [notc_dot, ← S.take_drop_while, List.drop_drop]
  obtain ⟨_, hle⟩ := upTo_le l p 46 hp
  have hnil : ¬ upTo l p 46 < l.length → l.drop (upTo l p 46) = [] := fun h => List.drop_eq_nil_of_le (by omega)
  have hcons : upTo l p 46 < l.length → ∃ c, l.drop (upTo l p 46) = c :: l.drop (upTo l p 46 + 1) := fun h => ⟨_, List.drop_eq_getElem_cons h⟩
  have e3 : t < 3 → 3 - t = (2 - t) + 1 := fun h => by omega
  refine ⟨fun h => ?_, fun h1 h2 => ?_, fun h1 h2 => ?_, fun n h h1 => ?_⟩
  · rcases Nat.lt_or_ge t 3 with g | g
    · rw [e3 g]; simp only [S.rq]; rw [hpc', h]
    · rw [show 3 - t = 0 from by omega]; simp only [S.rq]; rw [hpc', h]
  · rw [e3 h1]; simp only [S.rq]; rw [hd, hnil h2]
    cases S.num (S.piece (l.drop p)) 255 <;> rfl
  · rw [show 3 - t = 0 from by omega]; simp only [S.rq]; rw [hd]
    obtain ⟨c, hc⟩ := hcons h2
    rw [hc]
    cases S.num (S.piece (l.drop p)) 255 <;> rfl
  · rcases Nat.lt_or_ge t 3 with g | g
    · obtain ⟨c, hc⟩ := hcons (h1.1 g)
      rw [e3 g]; simp only [S.rq]; rw [hd, hpc', h, hc]
      unfold rcont; rw [if_pos (by omega), show 3 - (t + 1) = 2 - t from by omega]
    · have h2 : ¬ upTo l p 46 < l.length := fun e => by have := h1.2 e; omega
      rw [show 3 - t = 0 from by omega]; simp only [S.rq]; rw [hd, hpc', h, hnil h2]
      unfold rcont; rw [if_neg (by omega)]

theorem ext_list (b : ByteArray) (i j : Nat) : (b.extract i j).data.toList = (b.data.toList.drop i).take (j - i) := by
  simp

theorem ext_size (b : ByteArray) (i j : Nat) (hj : j ≤ b.size) : (b.extract i j).size = j - i := by simp; omega

end Go.Proofs.YtenhofbhkchjoaaDoor
