/-
  An area that lost its end.
-/
import Derived.Test.YteoebmpfdcbbmacDoorFA
namespace Jn
set_option maxRecDepth 100000

theorem rd_tail {g base fin n : Nat} {r : List Nat} {recs : List (List Nat)} {met : Bool} (hr : r.length ≤ 65536) (hn : n < 12 + r.length) :
    rd g base ((frame g recs.length r).take n) recs fin met = if met then ⟨3, g, recs, fin⟩ else ⟨1, 0, [], 0⟩ := by
  have hl : ((frame g recs.length r).take n).length = n := by rw [List.length_take, frame_len]; omega
  by_cases h : n < 12
  · rw [rd, dif_pos (by omega)]
  · have e : (frame g recs.length r).take n = w4 r.length ++ (w4 (crc r) ++ (w4 (sel g recs.length r.length (crc r)) ++ r.take (n - 12))) := by
      unfold frame
      rw [List.take_append, List.take_of_length_le (show (w4 r.length ++ w4 (crc r) ++ w4 (sel g recs.length r.length (crc r))).length ≤ n by show 12 ≤ n; omega)]
      simp only [List.append_assoc]
      rfl
    have n0 := num_at [] (w4 (crc r) ++ (w4 (sel g recs.length r.length (crc r)) ++ r.take (n - 12))) (show r.length < 4294967296 by omega) 0 rfl
    have n4 := num_at (w4 r.length) (w4 (sel g recs.length r.length (crc r)) ++ r.take (n - 12)) (crc_lt r) 4 rfl
    have n8 := num_at (w4 r.length ++ w4 (crc r)) (r.take (n - 12)) (show sel g recs.length r.length (crc r) < 4294967296 from crc_lt _) 8 rfl
    rw [List.nil_append] at n0
    rw [List.append_assoc] at n8
    rw [← e] at n0 n4 n8
    have hf : fits g recs.length ((frame g recs.length r).take n) = true := by
      unfold fits
      rw [n0, n4, n8]
      simp [hr]
    rw [rd, dif_neg (by omega), if_neg (by rw [hf]; simp), if_pos (by rw [n0, hl]; omega)]

/-- Where a row of frames was cut. -/
theorem cut_frames (g : Nat) : ∀ (rs : List (List Nat)) (k n : Nat), ∃ (m : Nat) (tail : List Nat), m ≤ rs.length ∧ (frames g k rs).take n = frames g k (rs.take m) ++ tail ∧ baseL (rs.take m) ≤ n ∧ ((m = rs.length ∧ tail = []) ∨ ∃ r n', rs[m]? = some r ∧ tail = (frame g (k + m) r).take n' ∧ n' < 12 + r.length ∧ n < baseL (rs.take (m + 1)))
  | [], k, n => ⟨0, [], Nat.le_refl _, by simp [frames], by simp [baseL], .inl ⟨rfl, rfl⟩⟩
  | r :: rs, k, n => by
    by_cases h : 12 + r.length ≤ n
    · obtain ⟨m, tail, h1, h2, h3, h4⟩ := cut_frames g rs (k + 1) (n - (12 + r.length))
      refine ⟨m + 1, tail, by simpa using h1, ?_, ?_, ?_⟩
      · rw [frames, List.take_append, frame_len, List.take_of_length_le (by rw [frame_len]; exact h), h2]
        simp [frames]
      · simp [baseL] at h3 ⊢
        omega
      · rcases h4 with ⟨h4, h5⟩ | ⟨q, n', h4, h5, h6, h7⟩
        · exact .inl ⟨by simpa using h4, h5⟩
        · refine .inr ⟨q, n', by simpa using h4, by rw [h5, show k + 1 + m = k + (m + 1) by omega], h6, ?_⟩
          simp [baseL] at h7 ⊢
          omega
    · refine ⟨0, (frame g k r).take n, Nat.zero_le _, ?_, by simp [baseL], .inr ⟨r, n, rfl, rfl, by omega, by simp [baseL]; omega⟩⟩
      rw [frames, List.take_append_of_le_length (by rw [frame_len]; omega)]
      simp [frames]

theorem rdA_short {b : List Nat} (h : b.length < 16) : rdA b = ⟨0, 0, [], 0⟩ := by rw [rdA, if_pos h]
theorem opn_none {B : List Nat} (h : (rdA B) = ⟨0, 0, [], 0⟩) : opnE [] B = false ∧ opnR [] B = [] ∧ dirt (opnL [] B).ws = 16 := by
  have h0 : rdA [] = ⟨0, 0, [], 0⟩ := rdA_short (by simp)
  refine ⟨?_, ?_, ?_⟩
  · unfold opnE; rw [h0, h]; rfl
  · unfold opnR; rw [h0, h]; rfl
  · unfold opnL
    rw [h0, h, if_pos (by decide)]
    show dirt ([] ++ [⟨0, 0, gener 1 []⟩]) = 16
    simp [dirt, gener_len, baseL]
/-- What is read of an area that lost its end. -/
theorem cut_open {bs ms : List (List Nat)} {n : Nat} (hb : ∀ r ∈ bs, r.length ≤ 65536) (hm : ∀ r ∈ ms, r.length ≤ 65536) (hlen : 16 + baseL bs + baseL ms ≤ 1048576) (hn : n ≤ 16 + baseL bs + baseL ms) :
    (n < 16 → opnE [] ((gener 2 bs ++ frames 2 bs.length ms).take n) = false ∧ opnR [] ((gener 2 bs ++ frames 2 bs.length ms).take n) = [] ∧ dirt (opnL [] ((gener 2 bs ++ frames 2 bs.length ms).take n)).ws = 16) ∧
    (16 ≤ n → n < 16 + baseL bs → opnE [] ((gener 2 bs ++ frames 2 bs.length ms).take n) = true) ∧
    (16 + baseL bs ≤ n → ∃ m, opnE [] ((gener 2 bs ++ frames 2 bs.length ms).take n) = false ∧ opnR [] ((gener 2 bs ++ frames 2 bs.length ms).take n) = (bs ++ ms).take m ∧ bs.length ≤ m ∧ m ≤ (bs ++ ms).length ∧ (opnL [] ((gener 2 bs ++ frames 2 bs.length ms).take n)).ws = [] ∧ (opnL [] ((gener 2 bs ++ frames 2 bs.length ms).take n)).size = 16 + baseL ((bs ++ ms).take m) ∧ 16 + baseL ((bs ++ ms).take m) ≤ n ∧ (m = (bs ++ ms).length ∨ n < 16 + baseL ((bs ++ ms).take (m + 1)))) := by
  have hl : (gener 2 bs ++ frames 2 bs.length ms).length = 16 + baseL bs + baseL ms := by rw [List.length_append, gener_len, frames_len]
  have hlt : ((gener 2 bs ++ frames 2 bs.length ms).take n).length = n := by rw [List.length_take, hl]; omega
  refine ⟨fun h => opn_none (rdA_short (by rw [hlt]; exact h)), fun h16 hb2 => ?_, fun hge => ?_⟩
  · have e : (gener 2 bs ++ frames 2 bs.length ms).take n = head 2 (baseL bs) ++ (frames 2 0 bs).take (n - 16) := by
      rw [List.take_append_of_le_length (by rw [gener_len]; omega), gener, List.take_append, head_len, List.take_of_length_le (by rw [head_len]; exact h16)]
    rw [e] at hlt ⊢
    obtain ⟨q0, q4, q8, q12, qt, qd⟩ := head_nums ((frames 2 0 bs).take (n - 16)) (show 2 < 4294967296 by decide) (show baseL bs < 4294967296 by omega)
    have hh : headOk (head 2 (baseL bs) ++ (frames 2 0 bs).take (n - 16)) = true := by
      unfold headOk
      rw [q0, q12, q8, qt]
      simp
      omega
    have h2 : rdA (head 2 (baseL bs) ++ (frames 2 0 bs).take (n - 16)) = ⟨2, 0, [], 0⟩ := by
      rw [rdA, if_neg (by omega), if_neg (by rw [hh, hlt]; simp; omega), if_pos (by rw [q8, hlt]; omega)]
    unfold opnE
    rw [rdA_short (b := []) (by simp), h2]
    rfl
  · obtain ⟨m, tail, h1, h2, h3, h4⟩ := cut_frames 2 ms bs.length (n - (16 + baseL bs))
    have e : (gener 2 bs ++ frames 2 bs.length ms).take n = gener 2 bs ++ frames 2 bs.length (ms.take m) ++ tail := by
      rw [List.take_append, gener_len, List.take_of_length_le (by rw [gener_len]; exact hge), h2, List.append_assoc]
    have et : (bs ++ ms).take (bs.length + m) = bs ++ ms.take m := by
      rw [List.take_append, List.take_of_length_le (by omega)]
      congr 2
      omega
    have et1 : (bs ++ ms).take (bs.length + m + 1) = bs ++ ms.take (m + 1) := by
      rw [List.take_append, List.take_of_length_le (by omega)]
      congr 2
      omega
    have hms : ∀ r ∈ ms.take m, r.length ≤ 65536 := fun r hr => hm r (List.mem_of_mem_take hr)
    have hlt2 := hlt
    rw [e, List.length_append, List.length_append, gener_len, frames_len] at hlt2
    have hr3 : rdA ((gener 2 bs ++ frames 2 bs.length ms).take n) = ⟨3, 2, bs ++ ms.take m, 16 + baseL bs + baseL (ms.take m)⟩ := by
      rw [e, rdA_gen (by decide) hb hms (by omega)]
      rcases h4 with ⟨-, rfl⟩ | ⟨r, n', h5, rfl, h6, -⟩
      · rw [rd, dif_pos (by simp)]; rfl
      · have hk : bs.length + m = (bs ++ ms.take m).length := by rw [List.length_append, List.length_take, Nat.min_eq_left h1]
        rw [hk, rd_tail (hm r (List.mem_of_getElem? h5)) h6]
        rfl
    obtain ⟨q1, q2, q3⟩ := opn_of (d := ([], (gener 2 bs ++ frames 2 bs.length ms).take n)) (c := 1) (by decide) (cx := ⟨3, 2, bs ++ ms.take m, 16 + baseL bs + baseL (ms.take m)⟩) hr3 rfl (by show 2 < _; decide) (.inl (by
      show (rdA []).st = 0
      rw [rdA_short (by simp)]))
    have hbb : baseL (bs ++ ms.take m) = baseL bs + baseL (ms.take m) := baseL_append _ _
    refine ⟨bs.length + m, q1, by rw [et]; exact q3, by omega, by rw [List.length_append]; omega, by rw [q2], by rw [q2, et, hbb]; show 16 + baseL bs + baseL (ms.take m) = _; omega, by rw [et, hbb]; omega, ?_⟩
    rcases h4 with ⟨h4, -⟩ | ⟨r, n', -, -, -, h7⟩
    · exact .inl (by rw [h4, List.length_append])
    · refine .inr ?_
      rw [et1, baseL_append]
      omega

/-- A log that was rewritten and appended to. -/
structure Rws (bs ms : List (List Nat)) (l : Lg) : Prop where
  a : l.a = []
  b : l.b = []
  cur : l.cur = 1
  gen : l.gen = 2
  fr : l.fr = bs.length + ms.length
  size : l.size = 16 + baseL (bs ++ ms)
  ws : l.ws.length = ms.length + 2
  pl : play ([], []) l.ws = (gener 1 [], gener 2 bs ++ frames 2 bs.length ms)
theorem Aps.rws {l : Lg} (h : Aps [] l) (bs : List (List Nat)) : Rws bs [] (l.rew bs) := by
  have e1 : (l.rew bs).ws = l.ws ++ [⟨1, 0, gener 2 bs⟩] := by
    show l.ws ++ [⟨1 - l.cur, 0, gener ((l.gen + 1) % 4294967296) bs⟩] = _
    rw [h.cur, h.gen]
  refine ⟨h.a, h.b, ?_, ?_, rfl, ?_, ?_, ?_⟩
  · show 1 - l.cur = 1
    rw [h.cur]
  · show (l.gen + 1) % 4294967296 = 2
    rw [h.gen]
  · rw [List.append_nil]; rfl
  · rw [e1, List.length_append, h.ws]; rfl
  · rw [e1, play_append, h.pl]
    show put1 _ ⟨1, 0, gener 2 bs⟩ (gener 2 bs).length = _
    simp [put1, frames]
theorem Rws.app {bs ms : List (List Nat)} {l : Lg} (h : Rws bs ms l) (r : List Nat) : Rws bs (ms ++ [r]) (l.app r) := by
  refine ⟨h.a, h.b, h.cur, h.gen, ?_, ?_, ?_, ?_⟩
  · show l.fr + 1 = _
    rw [h.fr]; simp; omega
  · show l.size + (12 + r.length) = _
    rw [h.size, ← List.append_assoc, baseL_append (bs ++ ms)]; simp [baseL]; omega
  · show (l.ws ++ [_]).length = _
    rw [List.length_append, h.ws]; simp
  · show play ([], []) (l.ws ++ [_]) = _
    rw [play_append, h.pl]
    show put1 _ ⟨l.cur, l.size, frame l.gen l.fr r⟩ (frame l.gen l.fr r).length = _
    unfold put1
    rw [h.cur, h.gen, h.fr]
    have e : (gener 2 bs ++ frames 2 bs.length ms).length = l.size := by rw [List.length_append, gener_len, frames_len, h.size, baseL_append]; omega
    show (gener 1 [], (gener 2 bs ++ frames 2 bs.length ms).take l.size ++ (frame 2 (bs.length + ms.length) r).take (frame 2 (bs.length + ms.length) r).length) = _
    rw [List.take_of_length_le (Nat.le_of_eq e), List.take_length, frames_append]
    simp [frames]
theorem Rws.syn {bs ms : List (List Nat)} {l : Lg} (h : Rws bs ms l) : l.syn.a = gener 1 [] ∧ l.syn.b = gener 2 bs ++ frames 2 bs.length ms := by
  have e : play (l.a, l.b) l.ws = (gener 1 [], gener 2 bs ++ frames 2 bs.length ms) := by rw [h.a, h.b]; exact h.pl
  exact ⟨by show (play _ _).1 = _; rw [e], by show (play _ _).2 = _; rw [e]⟩
end Jn
