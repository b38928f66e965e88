/-
  A bit that is turned over; what was read, built again.
-/
import Derived.Test.YtjjmopmdiflffaaNMathD
import Derived.Test.YtjjmopmdiflffaaNBH
namespace Go.Proofs.Ytjjmopmdiflffaa.N
set_option maxRecDepth 100000

theorem tot_set (L : List Nat) : ∀ (o : Bool) (i y : Nat), i < L.length → ∃ wt, (wt = 1 ∨ wt = 256) ∧ M.tot o (L.set i y) + wt * L.getD i 0 = M.tot o L + wt * y := by
  induction L with
  | nil => intro o i y h; simp at h
  | cons x L ih =>
    intro o i y h
    cases i with
    | zero =>
      cases o
      · exact ⟨256, .inr rfl, by simp only [List.set_cons_zero, M.tot, List.getD_cons_zero]; simp; omega⟩
      · exact ⟨1, .inl rfl, by simp only [List.set_cons_zero, M.tot, List.getD_cons_zero]; simp; omega⟩
    | succ i =>
      obtain ⟨wt, h1, h2⟩ := ih (!o) i y (by simpa using h)
      refine ⟨wt, h1, ?_⟩
      simp only [List.set_cons_succ, M.tot, List.getD_cons_succ]
      omega

theorem csum_zero {L : List Nat} (h : M.csum L = 0) : M.tot false L ≠ 0 ∧ M.tot false L % 65535 = 0 := by
  unfold M.csum M.fold at h
  split at h
  · omega
  · omega

theorem csum_zero_mk {L : List Nat} (h : M.tot false L ≠ 0) (g : M.tot false L % 65535 = 0) : M.csum L = 0 := by
  unfold M.csum M.fold
  rw [if_neg h]
  omega

/-- One bit. -/
def IsBit (m : Nat) : Prop := m = 1 ∨ m = 2 ∨ m = 4 ∨ m = 8 ∨ m = 16 ∨ m = 32 ∨ m = 64 ∨ m = 128

theorem csum_flip {L : List Nat} {i x y m : Nat} (hi : i < L.length) (hx : L.getD i 0 = x) (hm : IsBit m) (hxy : y = x + m ∨ x = y + m) (h0 : M.csum L = 0) : M.csum (L.set i y) ≠ 0 := by
  intro h1
  obtain ⟨a1, a2⟩ := csum_zero h0
  obtain ⟨b1, b2⟩ := csum_zero h1
  obtain ⟨wt, hw, e⟩ := tot_set L false i y hi
  rw [hx] at e
  generalize M.tot false (L.set i y) = T' at *
  generalize M.tot false L = T at *
  unfold IsBit at hm
  rcases hw with rfl | rfl <;> rcases hm with rfl | rfl | rfl | rfl | rfl | rfl | rfl | rfl <;> omega

theorem take_set_lt (X : List Nat) (n i y : Nat) : (X.set i y).take n = (X.take n).set i y := by
  rw [List.take_set]

theorem byt_set_ne {X : List Nat} {i j y : Nat} (h : i ≠ j) : byt (X.set i y) j = byt X j := by
  unfold byt
  rw [List.getD_eq_getElem?_getD, List.getD_eq_getElem?_getD, List.getElem?_set_ne h]

theorem byt_set_eq {X : List Nat} {i y : Nat} (h : i < X.length) : byt (X.set i y) i = y := by
  unfold byt
  rw [List.getD_eq_getElem?_getD, List.getElem?_set_self h]
  rfl

/-- A bit of a header turned over is told. -/
theorem flip_head (h : Hd) (B : List Nat) (i x y m : Nat) (hok : h.Ok) (he : refE h B.length = 0) (hi : i < 20 + h.opts.length) (hx : byt (builtL h B) i = x) (hm : IsBit m) (hxy : y = x + m ∨ x = y + m) (h0 : i = 0 → 16 ≤ m) :
    (exam ((builtL h B).set i y) true).2.2 ≠ 0 := by
  intro hz
  obtain ⟨x1, x2, x3, x4⟩ := parse_built h B [] hok he true
  rw [List.append_nil] at x1
  have x2' : (builtL h B).length = 20 + h.opts.length + B.length := x2
  have h1 : (exam (builtL h B) true).2.2 = 0 := by rw [x1]
  obtain ⟨f1, f2, f3⟩ := exam_ok h1
  obtain ⟨_, _, _, _, _, a6, _⟩ := lens_ok f1
  rw [← f3, x1] at f2 a6
  simp only at f2 a6
  obtain ⟨g1, g2, _⟩ := exam_ok hz
  obtain ⟨_, _, _, _, _, b6, _⟩ := lens_ok g1
  rw [b6] at g2
  generalize builtL h B = X at *
  have hlow : byt (X.set i y) 0 % 16 = byt X 0 % 16 := by
    by_cases hi0 : i = 0
    · subst hi0
      rw [byt_set_eq (by omega), hx]
      have := h0 rfl
      unfold IsBit at hm
      omega
    · rw [byt_set_ne hi0]
  rw [hlow, ← a6, take_set_lt] at g2
  have hc0 : M.csum (X.take (20 + h.opts.length)) = 0 := by
    unfold hdE at f2
    by_cases hc : M.csum (X.take (20 + h.opts.length)) ≠ 0
    · rw [if_pos hc] at f2; cases f2
    · exact Decidable.not_not.1 hc
  have hc1 : M.csum ((X.take (20 + h.opts.length)).set i y) = 0 := by
    unfold hdE at g2
    by_cases hc : M.csum ((X.take (20 + h.opts.length)).set i y) ≠ 0
    · rw [if_pos hc] at g2; cases g2
    · exact Decidable.not_not.1 hc
  refine csum_flip (L := X.take (20 + h.opts.length)) (i := i) (x := x) (y := y) (m := m) (by rw [List.length_take]; omega) ?_ hm hxy hc0 hc1
  rw [← hx]
  unfold byt
  rw [List.getD_eq_getElem?_getD, List.getD_eq_getElem?_getD, List.getElem?_take_of_lt hi]

/-- A bit of a body turned over. -/
theorem flip_body (h : Hd) (B : List Nat) (j y : Nat) : (builtL h B).set (20 + h.opts.length + j) y = builtL h (B.set j y) := by
  unfold builtL lenOfPk
  rw [List.length_set]
  by_cases he : refE h B.length = 0
  · rw [if_pos he, if_pos he, List.set_append_right _ _ (by rw [hdBytes_len]; omega), hdBytes_len, Nat.add_sub_cancel_left]
  · rw [if_neg he, if_neg he]; rfl

theorem parsed_built (h : Hd) (B T : List Nat) (hok : h.Ok) (he : refE h B.length = 0) : parsed (builtL h B ++ T) = (h, B, 0) := by
  obtain ⟨x1, x2, x3, x4⟩ := parse_built h B T hok he true
  have htk : (builtL h B ++ T).take (lenOfPk h B) = builtL h B := List.take_left' x2
  unfold parsed
  rw [x1]
  simp only
  rw [if_pos trivial, htk, x3, x4]

theorem set_getD (X : List Nat) (i : Nat) : X.set i (X.getD i 0) = X := by
  apply List.ext_getElem?
  intro j
  by_cases h : i = j
  · subst h
    by_cases hl : i < X.length
    · rw [List.getElem?_set_self hl, List.getD_eq_getElem?_getD, List.getElem?_eq_getElem hl]; rfl
    · rw [List.getElem?_eq_none (by rw [List.length_set]; omega), List.getElem?_eq_none (by omega)]
  · rw [List.getElem?_set_ne h]

set_option maxHeartbeats 1000000 in
/-- What was read, built: the bytes but for the sum. -/
theorem again_facts {L : List Nat} (hx : ∀ x ∈ L, x < 256) (he : (exam L true).2.2 = 0) :
    ∃ l, parsed L = ((parsed L).1, (parsed L).2.1, 0) ∧ (parsed L).1.Ok ∧ refE (parsed L).1 (parsed L).2.1.length = 0 ∧ 20 ≤ l ∧ l ≤ L.length ∧ l < 65536 ∧ (builtL (parsed L).1 (parsed L).2.1).length = l ∧ w16 L 2 = l ∧
      (∀ i, i < l → i ≠ 10 → i ≠ 11 → byt (builtL (parsed L).1 (parsed L).2.1) i = byt L i) ∧
      (w16 (builtL (parsed L).1 (parsed L).2.1) 10 = w16 L 10 ∨ w16 L 10 = 65535 ∧ w16 (builtL (parsed L).1 (parsed L).2.1) 10 = 0) := by
  obtain ⟨m, l, hex, f1, f2, f3, f4, f5, f6, f7, f8, f9, hp⟩ := read_facts hx he
  have hxl : ∀ x ∈ L.take l, x < 256 := fun x h => hx x (List.mem_of_mem_take h)
  obtain ⟨e1, e2, e3⟩ := exam_ok he
  have hsame : (rdH (L.take l) (m + 20)).withTTL (byt (L.take l) 8) = rdH (L.take l) (m + 20) := rfl
  have hb := aged (t := byt (L.take l) 8) hxl (by omega) (by omega) f5 f6 f7 f8 (f9 _)
  rw [hsame] at hb
  have h8 : (L.take l).set 8 (byt (L.take l) 8) = L.take l := set_getD _ _
  rw [h8] at hb
  have hok : (rdH (L.take l) (m + 20)).Ok := by
    have := rdH_ok hxl (m + 20) (byt (L.take l) 8) (byt_lt hxl 8)
    rwa [hsame] at this
  have hr := f9 (byt (L.take l) 8)
  rw [hsame] at hr
  rw [hp]
  simp only
  have hby : ∀ i, i < l → byt (L.take l) i = byt L i := fun i hi => byt_take hi
  obtain ⟨s, hs⟩ : ∃ s, s = M.csum ((L.take l).take 10 ++ ((L.take l).take (m + 20)).drop 12) := ⟨_, rfl⟩
  have hs16 : s < 65536 := by rw [hs]; exact M.csum_lt _
  rw [← hs] at hb
  rw [← hb]
  refine ⟨l, trivial, hok, hr, by omega, f1, f2, by rw [List.length_set, List.length_set, f4], ?_, ?_, ?_⟩
  · rw [f4] at f7
    rw [← f7]
    unfold w16
    rw [hby 2 (by omega), hby 3 (by omega)]
  · intro i hi h10 h11
    rw [byt_set_ne (by omega), byt_set_ne (by omega), hby i hi]
  · have hw : w16 (((L.take l).set 10 (s / 256)).set 11 (s % 256)) 10 = s := by
      unfold w16
      rw [byt_set_ne (by omega), byt_set_eq (by omega), byt_set_eq (by rw [List.length_set]; omega)]
      omega
    rw [hw]
    have hc : M.csum ((L.take l).take (m + 20)) = 0 := by
      rw [← e3, hex] at e2
      simp only at e2
      unfold hdE at e2
      rw [List.take_take, Nat.min_eq_left f3]
      by_cases hc : M.csum (L.take (m + 20)) ≠ 0
      · rw [if_pos hc] at e2; cases e2
      · exact Decidable.not_not.1 hc
    obtain ⟨c1, c2⟩ := csum_zero hc
    have hw2 : w16 L 10 = w16 (L.take l) 10 := by
      unfold w16; rw [hby 10 (by omega), hby 11 (by omega)]
    have hlt : w16 (L.take l) 10 < 65536 := w16_lt hxl 10
    rw [hw2]
    obtain ⟨x0, x1, x2, x3, x4, x5, x6, x7, x8, x9, x10, x11, x12, x13, x14, x15, x16, x17, x18, x19, T, hX⟩ := list20 (X := L.take l) (by omega)
    rw [hX] at hs c1 c2 hlt ⊢
    have ew : w16 (x0 :: x1 :: x2 :: x3 :: x4 :: x5 :: x6 :: x7 :: x8 :: x9 :: x10 :: x11 :: x12 :: x13 :: x14 :: x15 :: x16 :: x17 :: x18 :: x19 :: T) 10 = x10 * 256 + x11 := rfl
    rw [ew] at hlt ⊢
    have et : (x0 :: x1 :: x2 :: x3 :: x4 :: x5 :: x6 :: x7 :: x8 :: x9 :: x10 :: x11 :: x12 :: x13 :: x14 :: x15 :: x16 :: x17 :: x18 :: x19 :: T).take (m + 20) = x0 :: x1 :: x2 :: x3 :: x4 :: x5 :: x6 :: x7 :: x8 :: x9 :: x10 :: x11 :: x12 :: x13 :: x14 :: x15 :: x16 :: x17 :: x18 :: x19 :: T.take m := rfl
    rw [et] at hs c1 c2
    have ed : (x0 :: x1 :: x2 :: x3 :: x4 :: x5 :: x6 :: x7 :: x8 :: x9 :: x10 :: x11 :: x12 :: x13 :: x14 :: x15 :: x16 :: x17 :: x18 :: x19 :: T).take 10 ++ (x0 :: x1 :: x2 :: x3 :: x4 :: x5 :: x6 :: x7 :: x8 :: x9 :: x10 :: x11 :: x12 :: x13 :: x14 :: x15 :: x16 :: x17 :: x18 :: x19 :: T.take m).drop 12 = [x0, x1, x2, x3, x4, x5, x6, x7, x8, x9] ++ (x12 :: x13 :: x14 :: x15 :: x16 :: x17 :: x18 :: x19 :: T.take m) := rfl
    rw [ed] at hs
    obtain ⟨R, hR⟩ : ∃ R, R = x12 :: x13 :: x14 :: x15 :: x16 :: x17 :: x18 :: x19 :: T.take m := ⟨_, rfl⟩
    rw [← hR] at hs c1 c2
    obtain ⟨A, hA⟩ : ∃ A, A = [x0, x1, x2, x3, x4, x5, x6, x7, x8, x9] := ⟨_, rfl⟩
    have hAl : M.par false A.length = false := by rw [hA]; unfold M.par; rw [if_pos (by simp)]
    have eA : x0 :: x1 :: x2 :: x3 :: x4 :: x5 :: x6 :: x7 :: x8 :: x9 :: x10 :: x11 :: R = A ++ x10 :: x11 :: R := by rw [hA]; rfl
    rw [eA] at c1 c2
    rw [← hA] at hs
    have t1 : M.tot false (A ++ x10 :: x11 :: R) = M.tot false (A ++ R) + (x10 * 256 + x11) := by
      rw [M.tot_append, M.tot_append, hAl]
      have h1 : M.tot false (x10 :: x11 :: R) = 256 * x10 + (x11 + M.tot false R) := rfl
      rw [h1]
      omega
    rw [t1] at c1 c2
    unfold M.csum at hs
    generalize M.tot false (A ++ R) = S at *
    clear eA hA hR hX ew et ed t1 hb hw hw2 hc
    unfold M.fold at hs
    split at hs <;> omega
end Go.Proofs.Ytjjmopmdiflffaa.N
