/-
  What is opened.
-/
import Derived.Test.YteoebmpfdcbbmacDoorJN
namespace Jn
set_option maxRecDepth 100000

theorem rd_facts (g base : Nat) : ∀ (n : Nat) (L : List Nat) (recs : List (List Nat)) (fin : Nat) (met : Bool), L.length ≤ n →
    ((rd g base L recs fin met).st = 3 ∧ (rd g base L recs fin met).gen = g ∧ (rd g base L recs fin met).fin ≤ fin + L.length ∧ 12 * (rd g base L recs fin met).recs.length + fin ≤ 12 * recs.length + (rd g base L recs fin met).fin ∧ ∀ r ∈ (rd g base L recs fin met).recs, r ∈ recs ∨ (r.length ≤ 65536 ∧ ∀ y ∈ r, y ∈ L)) ∨ rd g base L recs fin met = ⟨1, 0, [], 0⟩ := by
  intro n
  induction n with
  | zero =>
    intro L recs fin met h
    rw [rd, dif_pos (by omega)]
    cases met with
    | true => left; exact ⟨rfl, rfl, by show fin ≤ _; omega, Nat.le_refl _, fun r hr => .inl hr⟩
    | false => right; rfl
  | succ n ih =>
    intro L recs fin met h
    by_cases h1 : L.length < 12
    · rw [rd, dif_pos h1]
      cases met with
      | true => left; exact ⟨rfl, rfl, by show fin ≤ _; omega, Nat.le_refl _, fun r hr => .inl hr⟩
      | false => right; rfl
    · by_cases h2 : fits g recs.length L = false
      · right; rw [rd, dif_neg h1, if_pos h2]
      · by_cases h3 : L.length < 12 + num L 0
        · rw [rd, dif_neg h1, if_neg h2, if_pos h3]
          cases met with
          | true => left; exact ⟨rfl, rfl, by show fin ≤ _; omega, Nat.le_refl _, fun r hr => .inl hr⟩
          | false => right; rfl
        · by_cases h4 : crc ((L.drop 12).take (num L 0)) = num L 4
          · rw [rd, dif_neg h1, if_neg h2, if_neg h3, if_pos h4]
            have hle : num L 0 ≤ 65536 := by
              have : fits g recs.length L = true := by cases hf : fits g recs.length L <;> simp_all
              unfold fits at this
              simp at this
              exact this.2
            rcases ih (L.drop (12 + num L 0)) (recs ++ [(L.drop 12).take (num L 0)]) (fin + (12 + num L 0)) (met || fin + (12 + num L 0) == base) (by rw [List.length_drop]; omega) with ⟨q1, q2, q3, q4, q5⟩ | q
            · left
              refine ⟨q1, q2, ?_, ?_, fun r hr => ?_⟩
              · rw [List.length_drop] at q3; omega
              · rw [List.length_append] at q4; simp at q4; omega
              · rcases q5 r hr with h | ⟨ha, hb⟩
                · rcases List.mem_append.1 h with h | h
                  · exact .inl h
                  · simp at h
                    subst h
                    exact .inr ⟨by rw [List.length_take]; omega, fun y hy => List.mem_of_mem_drop (List.mem_of_mem_take hy)⟩
                · exact .inr ⟨ha, fun y hy => List.mem_of_mem_drop (hb y hy)⟩
            · right; exact q
          · right; rw [rd, dif_neg h1, if_neg h2, if_neg h3, if_neg h4]

/-- What an area can tell. -/
theorem rdA_facts (b : List Nat) (hb : ∀ y ∈ b, y < 256) :
    (rdA b = ⟨0, 0, [], 0⟩ ∧ b.length < 16) ∨ rdA b = ⟨1, 0, [], 0⟩ ∨ (rdA b = ⟨2, 0, [], 0⟩ ∧ b.length ≤ 1048576) ∨
      ((rdA b).st = 3 ∧ b.length ≤ 1048576 ∧ (rdA b).gen < 4294967296 ∧ (rdA b).fin ≤ b.length ∧ 16 + 12 * (rdA b).recs.length ≤ (rdA b).fin ∧ (∀ r ∈ (rdA b).recs, r.length ≤ 65536 ∧ ∀ y ∈ r, y < 256)) := by
  by_cases h1 : b.length < 16
  · left; exact ⟨by rw [rdA, if_pos h1], h1⟩
  · by_cases h2 : 1048576 < b.length ∨ headOk b = false
    · right; left; rw [rdA, if_neg h1, if_pos h2]
    · have hl : b.length ≤ 1048576 := by omega
      by_cases h3 : b.length < 16 + num b 8
      · right; right; left; exact ⟨by rw [rdA, if_neg h1, if_neg h2, if_pos h3], hl⟩
      · have e : rdA b = rd (num b 4) (16 + num b 8) (b.drop 16) [] 16 (16 == 16 + num b 8) := by rw [rdA, if_neg h1, if_neg h2, if_neg h3]
        rw [e]
        rcases rd_facts (num b 4) (16 + num b 8) _ (b.drop 16) [] 16 (16 == 16 + num b 8) (Nat.le_refl _) with ⟨q1, q2, q3, q4, q5⟩ | q
        · right; right; right
          rw [List.length_drop] at q3
          simp only [List.length_nil] at q4
          refine ⟨q1, hl, by rw [q2]; exact num_lt hb 4, by omega, by omega, fun r hr => ?_⟩
          rcases q5 r hr with h | ⟨ha, hy⟩
          · simp at h
          · exact ⟨ha, fun y h => hb y (List.mem_of_mem_drop (hy y h))⟩
        · right; left; exact q

/-- The journal that is opened from two areas, and its records. -/
def opnL (A B : List Nat) : Lg := if (rdA A).st ≠ 3 ∧ (rdA B).st ≠ 3 then (⟨A, B, [], 0, 0, 0, 0⟩ : Lg).beg 0 1 [] else
  if newerN (rdA A).st (rdA A).gen (rdA B).st (rdA B).gen = 0 then ⟨A, B, [], 0, (rdA A).gen, (rdA A).recs.length, (rdA A).fin⟩ else ⟨A, B, [], 1, (rdA B).gen, (rdA B).recs.length, (rdA B).fin⟩
def opnR (A B : List Nat) : List (List Nat) := if (rdA A).st ≠ 3 ∧ (rdA B).st ≠ 3 then [] else
  if newerN (rdA A).st (rdA A).gen (rdA B).st (rdA B).gen = 0 then (rdA A).recs else (rdA B).recs
/-- Does Open refuse the disk? -/
def opnE (A B : List Nat) : Bool := (((rdA A).st == 1) || ((rdA B).st == 1)) || ((((rdA A).st == 2) || ((rdA B).st == 2)) && !(((rdA A).st == 3) || ((rdA B).st == 3)))

theorem opn_ok {A B : List Nat} (hA : ∀ y ∈ A, y < 256) (hB : ∀ y ∈ B, y < 256) (h : opnE A B = false) : (opnL A B).Ok := by
  have la : A.length ≤ 1048576 ∧ (rdA A).st ≠ 1 := by
    rcases rdA_facts A hA with ⟨e, h1⟩ | e | ⟨e, h1⟩ | ⟨e, h1, -⟩
    · rw [e]; exact ⟨by omega, by simp⟩
    · unfold opnE at h; rw [e] at h; simp at h
    · rw [e]; exact ⟨h1, by simp⟩
    · exact ⟨h1, by omega⟩
  have lb : B.length ≤ 1048576 ∧ (rdA B).st ≠ 1 := by
    rcases rdA_facts B hB with ⟨e, h1⟩ | e | ⟨e, h1⟩ | ⟨e, h1, -⟩
    · rw [e]; exact ⟨by omega, by simp⟩
    · unfold opnE at h; rw [e] at h; simp at h
    · rw [e]; exact ⟨h1, by simp⟩
    · exact ⟨h1, by omega⟩
  unfold opnL
  by_cases h3 : (rdA A).st ≠ 3 ∧ (rdA B).st ≠ 3
  · rw [if_pos h3]
    refine ⟨⟨by decide, Nat.zero_le _, by decide, by decide, gener_bytes (fun r hr => by simp at hr), trivial⟩, (by decide : 0 < 2), (by decide : 1 < 4294967296), (by decide : 16 + 12 * 0 ≤ 16 + 0), (by decide : 16 + 0 ≤ 1048576), ?_, hA, hB, la.1, lb.1⟩
    show 16 + baseL [] ≤ (area (play (A, B) [⟨0, 0, gener 1 []⟩]) 0).length
    have := area_put_same (A, B) ⟨0, 0, gener 1 []⟩ (gener 1 []).length (by decide)
    simp only [play]
    simp only at this
    rw [this, List.length_append, List.length_take, List.length_take, gener_len]
    simp [baseL]
  · rw [if_neg h3]
    by_cases hn : newerN (rdA A).st (rdA A).gen (rdA B).st (rdA B).gen = 0
    · rw [if_pos hn]
      have h0 : (rdA A).st = 3 := by
        unfold newerN at hn
        by_cases hb : (rdA B).st = 3
        · rw [if_neg (by simp [hb])] at hn
          by_cases hc : (rdA A).st = 3 ∧ ((rdA A).gen + 4294967296 - (rdA B).gen) % 4294967296 < 2147483648
          · exact hc.1
          · rw [if_neg hc] at hn; cases hn
        · have : ¬ ((rdA A).st ≠ 3) := fun e => h3 ⟨e, hb⟩
          omega
      rcases rdA_facts A hA with ⟨e, h1⟩ | e | ⟨e, h1⟩ | ⟨e, h1, q1, q2, q3, -⟩
      · rw [e] at h0; cases h0
      · rw [e] at h0; cases h0
      · rw [e] at h0; cases h0
      · exact ⟨trivial, (by decide : 0 < 2), q1, q3, by show (rdA A).fin ≤ _; omega, q2, hA, hB, la.1, lb.1⟩
    · rw [if_neg hn]
      have h0 : (rdA B).st = 3 := by
        unfold newerN at hn
        by_cases hb : (rdA B).st = 3
        · exact hb
        · rw [if_pos hb] at hn; exact absurd rfl hn
      rcases rdA_facts B hB with ⟨e, h1⟩ | e | ⟨e, h1⟩ | ⟨e, h1, q1, q2, q3, -⟩
      · rw [e] at h0; cases h0
      · rw [e] at h0; cases h0
      · rw [e] at h0; cases h0
      · exact ⟨trivial, (by decide : 1 < 2), q1, q3, by show (rdA B).fin ≤ _; omega, q2, hA, hB, la.1, lb.1⟩
end Jn
