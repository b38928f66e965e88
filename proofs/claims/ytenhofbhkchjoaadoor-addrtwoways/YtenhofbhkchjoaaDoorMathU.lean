/-
  Prefixes as texts, there and back; hardware addresses as texts.
-/
import Derived.Test.YtenhofbhkchjoaaDoorMathT
import Derived.Test.YtenhofbhkchjoaaDoorF
namespace Go.Proofs.YtenhofbhkchjoaaDoor
open Go.Lib

theorem notc_47 {c : UInt8} (h : S.isDig c = true ∨ c = 46) : notc 47 c = true := by
  rcases h with h | rfl
  · simp [S.isDig] at h
    simp [notc]; omega
  · decide

theorem quad_mem {a : Nat} (c : UInt8) (hc : c ∈ S.quad a) : S.isDig c = true ∨ c = 46 := by
  unfold S.quad at hc
  simp only [List.mem_append, List.mem_cons] at hc
  rcases hc with h | h | h | h | h | h | h
  · exact .inl ((S.dec_facts (by omega)).1 c h)
  · exact .inr h
  · exact .inl ((S.dec_facts (by omega)).1 c h)
  · exact .inr h
  · exact .inl ((S.dec_facts (by omega)).1 c h)
  · exact .inr h
  · exact .inl ((S.dec_facts (by omega)).1 c h)

theorem pre_quad {a n : Nat} (ha : a < 4294967296) (hn : n ≤ 32) : pre (S.quad a ++ 47 :: decDigits n) = some (a, n) := by
  have hu : upTo (S.quad a ++ 47 :: decDigits n) 0 47 = (S.quad a).length := by
    rw [upTo_zero, List.takeWhile_append_of_pos (fun c hc => notc_47 (quad_mem c hc)), List.takeWhile_cons_of_neg (by decide)]
    simp
  unfold pre
  rw [hu, if_pos (by simp), List.take_left, ← List.drop_drop, List.drop_left, List.drop_one, List.tail_cons, S.pa_quad ha, S.num_dec hn (by omega)]

theorem pre_inv {l : List UInt8} {a n : Nat} (h : pre l = some (a, n)) : l = S.quad a ++ 47 :: decDigits n ∧ n ≤ 32 ∧ a < 4294967296 := by
  unfold pre at h
  split at h
  · rename_i hlt
    cases e1 : S.pa (l.take (upTo l 0 47)) with
    | none => rw [e1] at h; simp at h
    | some a' =>
      cases e2 : S.num (l.drop (upTo l 0 47 + 1)) 32 with
      | none => rw [e1, e2] at h; simp at h
      | some n' =>
        rw [e1, e2] at h
        simp at h
        obtain ⟨rfl, rfl⟩ := h
        have q1 := S.quad_pa e1
        have q2 := (S.num_some (by omega)).1 e2
        refine ⟨?_, q2.1, (S.pa_len e1).2⟩
        rw [q1, q2.2]
        have hd : l.drop (upTo l 0 47) = 47 :: l.drop (upTo l 0 47 + 1) := by
          rw [List.drop_eq_getElem_cons hlt]
          congr 1
          have hw := S.dw_head (notc 47) l (l[upTo l 0 47]) (l.drop (upTo l 0 47 + 1)) (by
            rw [← S.take_drop_while (notc 47) l, ← upTo_zero l 47, List.drop_eq_getElem_cons hlt])
          rw [← UInt8.toNat_inj]
          simpa [notc] using hw
        rw [← hd, List.take_append_drop]
  · cases h
end Go.Proofs.YtenhofbhkchjoaaDoor
