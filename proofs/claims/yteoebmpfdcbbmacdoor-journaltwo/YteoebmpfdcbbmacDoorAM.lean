/-
  A crash in the midst of a Rewrite and of Appends.
-/
import Derived.Test.YteoebmpfdcbbmacDoorGM
namespace Jn
set_option maxRecDepth 100000

theorem take_min' (L : List Nat) (k : Nat) : L.take (min k L.length) = L.take k := by
  rcases Nat.le_total k L.length with h | h
  · rw [Nat.min_eq_left h]
  · rw [Nat.min_eq_right h, List.take_length, List.take_of_length_le h]
theorem cut_torn {g : Nat} {bs ms : List (List Nat)} {n : Nat} (hg : g < 4294967296) (hlen : 16 + baseL bs + baseL ms ≤ 1048576) (h16 : 16 ≤ n) (hb2 : n < 16 + baseL bs) : rdA ((gener g bs ++ frames g bs.length ms).take n) = ⟨2, 0, [], 0⟩ := by
  have e : (gener g bs ++ frames g bs.length ms).take n = head g (baseL bs) ++ (frames g 0 bs).take (n - 16) := by
    rw [List.take_append_of_le_length (by rw [gener_len]; omega), gener, List.take_append, head_len, List.take_of_length_le (by rw [head_len]; exact h16)]
  have hlt : ((gener g bs ++ frames g bs.length ms).take n).length = n := by rw [List.length_take, List.length_append, gener_len]; omega
  rw [e] at hlt ⊢
  obtain ⟨q0, q4, q8, q12, qt, qd⟩ := head_nums ((frames g 0 bs).take (n - 16)) hg (show baseL bs < 4294967296 by omega)
  have hh : headOk (head g (baseL bs) ++ (frames g 0 bs).take (n - 16)) = true := by
    unfold headOk
    rw [q0, q12, q8, qt]
    simp
    omega
  rw [rdA, if_neg (by omega), if_neg (by rw [hh, hlt]; simp; omega), if_pos (by rw [q8, hlt]; omega)]
theorem cut_read {g : Nat} {bs ms : List (List Nat)} {n : Nat} (hg : g < 4294967296) (hb : ∀ r ∈ bs, r.length ≤ 65536) (hm : ∀ r ∈ ms, r.length ≤ 65536) (hlen : 16 + baseL bs + baseL ms ≤ 1048576) (hn : n ≤ 16 + baseL bs + baseL ms) (hge : 16 + baseL bs ≤ n) :
    ∃ m, rdA ((gener g bs ++ frames g bs.length ms).take n) = ⟨3, g, (bs ++ ms).take m, 16 + baseL ((bs ++ ms).take m)⟩ ∧ bs.length ≤ m ∧ m ≤ (bs ++ ms).length ∧ 16 + baseL ((bs ++ ms).take m) ≤ n ∧ (m = (bs ++ ms).length ∨ n < 16 + baseL ((bs ++ ms).take (m + 1))) := by
  have hl : (gener g bs ++ frames g bs.length ms).length = 16 + baseL bs + baseL ms := by rw [List.length_append, gener_len, frames_len]
  have hlt : ((gener g bs ++ frames g bs.length ms).take n).length = n := by rw [List.length_take, hl]; omega
  obtain ⟨m, tail, h1, h2, h3, h4⟩ := cut_frames g ms bs.length (n - (16 + baseL bs))
  have e : (gener g bs ++ frames g bs.length ms).take n = gener g bs ++ frames g bs.length (ms.take m) ++ tail := by
    rw [List.take_append, gener_len, List.take_of_length_le (by rw [gener_len]; exact hge), h2, List.append_assoc]
  have et : (bs ++ ms).take (bs.length + m) = bs ++ ms.take m := by
    rw [List.take_append, List.take_of_length_le (by omega)]
    congr 2
    omega
  have et1 : (bs ++ ms).take (bs.length + m + 1) = bs ++ ms.take (m + 1) := by
    rw [List.take_append, List.take_of_length_le (by omega)]
    congr 2
    omega
  have hms : ∀ r ∈ ms.take m, r.length ≤ 65536 := fun r hr => hm r (List.mem_of_mem_take hr)
  have hlt2 := hlt
  rw [e, List.length_append, List.length_append, gener_len, frames_len] at hlt2
  have hbb : baseL (bs ++ ms.take m) = baseL bs + baseL (ms.take m) := baseL_append _ _
  refine ⟨bs.length + m, ?_, by omega, by rw [List.length_append]; omega, by rw [et, hbb]; omega, ?_⟩
  · rw [et, hbb, ← Nat.add_assoc, e, rdA_gen hg hb hms (by omega)]
    rcases h4 with ⟨-, rfl⟩ | ⟨r, n', h5, rfl, h6, -⟩
    · rw [rd, dif_pos (by simp)]; rfl
    · have hk : bs.length + m = (bs ++ ms.take m).length := by rw [List.length_append, List.length_take, Nat.min_eq_left h1]
      rw [hk, rd_tail (hm r (List.mem_of_getElem? h5)) h6]
      rfl
  · rcases h4 with ⟨h4, -⟩ | ⟨r, n', -, -, -, h7⟩
    · exact .inl (by rw [h4, List.length_append])
    · refine .inr ?_
      rw [et1, baseL_append]
      omega

theorem opn_torn {A B : List Nat} {g fin : Nat} {rs : List (List Nat)} (hA : rdA A = ⟨2, 0, [], 0⟩) (hB : rdA B = ⟨3, g, rs, fin⟩) : opnE A B = false ∧ opnR A B = rs := by
  refine ⟨by unfold opnE; rw [hA, hB]; rfl, ?_⟩
  unfold opnR
  rw [hA, hB, if_neg (by simp), if_neg (by simp [newerN])]

theorem crash_app : ∀ (xs ys : List Wr) (d : Dk) (k : Nat), crash d k (xs ++ ys) = if k ≤ dirt xs then crash d k xs else crash (play d xs) (k - dirt xs) ys
  | [], ys, d, k => by
    by_cases h : k = 0
    · subst h
      simp [dirt]
      cases ys <;> simp [crash]
    · rw [if_neg (by simp [dirt]; exact h)]
      simp [dirt, play]
  | x :: xs, ys, d, k => by
    have hd : dirt (x :: xs) = x.bs.length + dirt xs := by simp [dirt]
    have z : ∀ (d : Dk) (zs : List Wr), crash d 0 zs = d := fun d zs => by cases zs <;> simp [crash]
    by_cases h : k = 0
    · subst h
      rw [z, z, if_pos (Nat.zero_le _)]
    · rw [List.cons_append, crash, if_neg h, crash_app xs ys]
      by_cases hk : k ≤ x.bs.length
      · rw [Nat.min_eq_left hk, Nat.sub_self, if_pos (Nat.zero_le _), z, if_pos (by omega), crash, if_neg h, Nat.min_eq_left hk, Nat.sub_self, z]
      · rw [Nat.min_eq_right (by omega)]
        by_cases hk2 : k - x.bs.length ≤ dirt xs
        · rw [if_pos hk2, if_pos (by omega), crash, if_neg h, Nat.min_eq_right (by omega)]
        · rw [if_neg hk2, if_neg (by omega), play, hd, Nat.sub_sub]

/-- A log that was rewritten, synced, rewritten and appended to. -/
structure Atm (os ns ms : List (List Nat)) (l : Lg) : Prop where
  a : l.a = gener 1 []
  b : l.b = gener 2 os
  cur : l.cur = 0
  gen : l.gen = 3
  fr : l.fr = ns.length + ms.length
  size : l.size = 16 + baseL (ns ++ ms)
  ws : l.ws.length = ms.length + 1
  di : dirt l.ws = 16 + baseL (ns ++ ms)
  pl : play (l.a, l.b) l.ws = (gener 3 ns ++ frames 3 ns.length ms, gener 2 os)
  cr : ∀ k, 0 < k → crash (l.a, l.b) k l.ws = ((gener 3 ns ++ frames 3 ns.length ms).take k, gener 2 os)
theorem Rws.atm {os : List (List Nat)} {l : Lg} (h : Rws os [] l) (ns : List (List Nat)) : Atm os ns [] (l.syn.rew ns) := by
  obtain ⟨ea, eb⟩ := h.syn
  have eb' : l.syn.b = gener 2 os := by rw [eb]; simp [frames]
  have ew : (l.syn.rew ns).ws = [⟨0, 0, gener 3 ns⟩] := by
    show ([] : List Wr) ++ [(⟨1 - l.cur, 0, gener ((l.gen + 1) % 4294967296) ns⟩ : Wr)] = _
    rw [h.cur, h.gen]
    rfl
  refine ⟨ea, eb', ?_, ?_, rfl, ?_, ?_, ?_, ?_, ?_⟩
  · show 1 - l.cur = 0
    rw [h.cur]
  · show (l.gen + 1) % 4294967296 = 3
    rw [h.gen]
  · rw [List.append_nil]; rfl
  · rw [ew]; rfl
  · rw [ew, List.append_nil]; simp [dirt, gener_len]
  · rw [ew]
    show put1 (l.syn.a, l.syn.b) ⟨0, 0, gener 3 ns⟩ (gener 3 ns).length = _
    rw [eb']
    simp [put1, frames]
  · intro k hk
    rw [ew, crash, if_neg (by omega)]
    show put1 (l.syn.a, l.syn.b) ⟨0, 0, gener 3 ns⟩ (min k (gener 3 ns).length) = _
    rw [eb']
    simp only [put1, if_true, List.take_zero, List.nil_append, frames, List.append_nil]
    rw [take_min']
theorem Atm.app {os ns ms : List (List Nat)} {l : Lg} (h : Atm os ns ms l) (r : List Nat) : Atm os ns (ms ++ [r]) (l.app r) := by
  have hF : (gener 3 ns ++ frames 3 ns.length ms).length = l.size := by rw [List.length_append, gener_len, frames_len, h.size, baseL_append]; omega
  have eF : gener 3 ns ++ frames 3 ns.length (ms ++ [r]) = (gener 3 ns ++ frames 3 ns.length ms) ++ frame 3 (ns.length + ms.length) r := by
    rw [frames_append, List.append_assoc]; simp [frames]
  have ebs : baseL (ns ++ (ms ++ [r])) = baseL (ns ++ ms) + (12 + r.length) := by rw [← List.append_assoc, baseL_append (ns ++ ms)]; simp [baseL]
  have ew : (l.app r).ws = l.ws ++ [⟨0, l.size, frame 3 (ns.length + ms.length) r⟩] := by
    show l.ws ++ [⟨l.cur, l.size, frame l.gen l.fr r⟩] = _
    rw [h.cur, h.gen, h.fr]
  refine ⟨h.a, h.b, h.cur, h.gen, ?_, ?_, ?_, ?_, ?_, ?_⟩
  · show l.fr + 1 = _
    rw [h.fr]; simp; omega
  · show l.size + (12 + r.length) = _
    rw [h.size, ebs]; omega
  · rw [ew, List.length_append, h.ws]; simp
  · rw [ew, dirt_append, h.di, ebs]; simp [dirt, frame_len]; omega
  · rw [ew, eF]
    show play (l.a, l.b) _ = _
    rw [play_append, h.pl]
    show put1 _ ⟨0, l.size, frame 3 (ns.length + ms.length) r⟩ (frame 3 (ns.length + ms.length) r).length = _
    simp only [put1, if_true]
    rw [List.take_of_length_le (Nat.le_of_eq hF), List.take_length]
  · intro k hk
    rw [ew, eF]
    show crash (l.a, l.b) k _ = _
    rw [crash_app, h.di, ← h.size]
    by_cases hks : k ≤ l.size
    · have e3 : ((gener 3 ns ++ frames 3 ns.length ms) ++ frame 3 (ns.length + ms.length) r).take k = (gener 3 ns ++ frames 3 ns.length ms).take k := List.take_append_of_le_length (by rw [hF]; exact hks)
      rw [if_pos hks, h.cr k hk, e3]
    · rw [if_neg hks, h.pl, crash, if_neg (by omega), List.take_append, List.take_of_length_le (by rw [hF]; omega), hF]
      show put1 _ ⟨0, l.size, frame 3 (ns.length + ms.length) r⟩ (min (k - l.size) (frame 3 (ns.length + ms.length) r).length) = _
      simp only [put1, if_true]
      rw [List.take_of_length_le (Nat.le_of_eq hF), take_min']

theorem area_gen {g : Nat} {rs : List (List Nat)} (hg : g < 4294967296) (hr : ∀ r ∈ rs, r.length ≤ 65536) (hb : 16 + baseL rs ≤ 1048576) : rdA (gener g rs) = ⟨3, g, rs, 16 + baseL rs⟩ := by
  have := rdA_whole (g := g) (rs := rs) (more := []) hg hr (by simp) (by simp [baseL] at *; omega)
  simpa [frames, baseL] using this
/-- What is read behind a crash. -/
theorem Atm.read {os ns ms : List (List Nat)} {l : Lg} (h : Atm os ns ms l) (ho : ∀ r ∈ os, r.length ≤ 65536) (hn : ∀ r ∈ ns, r.length ≤ 65536) (hm : ∀ r ∈ ms, r.length ≤ 65536) (bo : 16 + baseL os ≤ 1048576) (bn : 16 + baseL ns + baseL ms ≤ 1048576) (k : Nat) (hk : k ≤ 16 + baseL ns + baseL ms) :
    (k < 16 + baseL ns → opnE (crash (l.a, l.b) k l.ws).1 (crash (l.a, l.b) k l.ws).2 = false ∧ opnR (crash (l.a, l.b) k l.ws).1 (crash (l.a, l.b) k l.ws).2 = os) ∧
    (16 + baseL ns ≤ k → ∃ m, opnE (crash (l.a, l.b) k l.ws).1 (crash (l.a, l.b) k l.ws).2 = false ∧ opnR (crash (l.a, l.b) k l.ws).1 (crash (l.a, l.b) k l.ws).2 = (ns ++ ms).take m ∧ ns.length ≤ m ∧ m ≤ (ns ++ ms).length ∧ 16 + baseL ((ns ++ ms).take m) ≤ k ∧ (m = (ns ++ ms).length ∨ k < 16 + baseL ((ns ++ ms).take (m + 1)))) := by
  have hB := area_gen (g := 2) (by decide) ho bo
  rcases Nat.eq_zero_or_pos k with rfl | hk0
  · have e : crash (l.a, l.b) 0 l.ws = (gener 1 [], gener 2 os) := by
      rw [h.a, h.b]
      cases l.ws <;> simp [crash]
    rw [e]
    refine ⟨fun _ => ?_, fun h => by omega⟩
    obtain ⟨q1, -, q3⟩ := opn_of (d := (gener 1 [], gener 2 os)) (c := 1) (by decide) hB rfl (by show 2 < _; decide) (.inr (by
      show (rdA (gener 1 [])).st = 3 ∧ (rdA (gener 1 [])).gen = _
      rw [area_gen (g := 1) (by decide) (by simp) (by simp [baseL])]
      exact ⟨rfl, by show (1 : Nat) = (2 + 4294967295) % 4294967296; omega⟩))
    exact ⟨q1, q3⟩
  · rw [h.cr k hk0]
    refine ⟨fun hlt => ?_, fun hge => ?_⟩
    · by_cases h16 : k < 16
      · obtain ⟨q1, -, q3⟩ := opn_of (d := ((gener 3 ns ++ frames 3 ns.length ms).take k, gener 2 os)) (c := 1) (by decide) hB rfl (by show 2 < _; decide) (.inl (by
          show (rdA ((gener 3 ns ++ frames 3 ns.length ms).take k)).st = 0
          rw [rdA_short (by rw [List.length_take]; omega)]))
        exact ⟨q1, q3⟩
      · exact opn_torn (cut_torn (by decide) bn (by omega) hlt) hB
    · obtain ⟨m, e, h1, h2, h3, h4⟩ := cut_read (g := 3) (by decide) hn hm bn hk hge
      obtain ⟨q1, -, q3⟩ := opn_of (d := ((gener 3 ns ++ frames 3 ns.length ms).take k, gener 2 os)) (c := 0) (by decide) e rfl (by show 3 < _; decide) (.inr (by
        show (rdA (gener 2 os)).st = 3 ∧ (rdA (gener 2 os)).gen = _
        rw [hB]
        exact ⟨rfl, by show (2 : Nat) = (3 + 4294967295) % 4294967296; omega⟩))
      exact ⟨m, q1, q3, h1, h2, h3, h4⟩
theorem crash_bytes : ∀ (ws : List Wr) (d : Dk) (k : Nat), (∀ y ∈ d.1, y < 256) → (∀ y ∈ d.2, y < 256) → (∀ x ∈ ws, ∀ y ∈ x.bs, y < 256) → (∀ y ∈ (crash d k ws).1, y < 256) ∧ ∀ y ∈ (crash d k ws).2, y < 256
  | [], d, k, ha, hb, _ => by simp only [crash]; exact ⟨ha, hb⟩
  | x :: xs, d, k, ha, hb, hx => by
    rw [crash]
    split
    · exact ⟨ha, hb⟩
    · obtain ⟨p1, p2⟩ := put_bytes ha hb (hx x (by simp)) (min k x.bs.length)
      exact crash_bytes xs _ _ p1 p2 (fun z hz => hx z (by simp [hz]))
theorem okW.bytes : ∀ {ws : List Wr} {d : Dk}, okW d ws → ∀ x ∈ ws, ∀ y ∈ x.bs, y < 256
  | [], _, _, x, hx => by simp at hx
  | z :: zs, d, h, x, hx => by
    rcases List.mem_cons.1 hx with rfl | hx
    · exact h.2.2.2.2.1
    · exact okW.bytes h.2.2.2.2.2 x hx
end Jn
