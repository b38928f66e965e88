/-
  A journal and the tale of it: what every crash leaves.
-/
import Derived.Test.YteoebmpfdcbbmacDoorAM
namespace Jn
set_option maxRecDepth 100000

theorem opn_of2 {d : Dk} {c : Nat} (hc : c < 2) {cx : Ct} (h : rdA (area d c) = cx) (h3 : cx.st = 3) (hg : cx.gen < 4294967296) (ho : (rdA (area d (1 - c))).st = 0 ∨ (rdA (area d (1 - c))).st = 2 ∨ ((rdA (area d (1 - c))).st = 3 ∧ (rdA (area d (1 - c))).gen = (cx.gen + 4294967295) % 4294967296)) :
    opnE d.1 d.2 = false ∧ opnL d.1 d.2 = ⟨d.1, d.2, [], c, cx.gen, cx.recs.length, cx.fin⟩ ∧ opnR d.1 d.2 = cx.recs := by
  rcases ho with ho | ho | ho
  · exact opn_of hc h h3 hg (.inl ho)
  · rcases (by omega : c = 0 ∨ c = 1) with rfl | rfl
    · have e0 : area d 0 = d.1 := rfl
      have e1 : area d (1 - 0) = d.2 := rfl
      rw [e0] at h
      rw [e1] at ho
      have hn : newerN (rdA d.1).st (rdA d.1).gen (rdA d.2).st (rdA d.2).gen = 0 := by
        unfold newerN
        rw [if_pos (by omega)]
      have hne : ¬ ((rdA d.1).st ≠ 3 ∧ (rdA d.2).st ≠ 3) := fun e => e.1 (by rw [h]; exact h3)
      refine ⟨?_, ?_, ?_⟩
      · unfold opnE
        rw [h, h3, ho]; rfl
      · unfold opnL; rw [if_neg hne, if_pos hn, h]
      · unfold opnR; rw [if_neg hne, if_pos hn, h]
    · have e0 : area d 1 = d.2 := rfl
      have e1 : area d (1 - 1) = d.1 := rfl
      rw [e0] at h
      rw [e1] at ho
      have hn : newerN (rdA d.1).st (rdA d.1).gen (rdA d.2).st (rdA d.2).gen = 1 := by
        unfold newerN
        rw [if_neg (by rw [h]; simp [h3]), if_neg (by rintro ⟨e, -⟩; omega)]
      have hne : ¬ ((rdA d.1).st ≠ 3 ∧ (rdA d.2).st ≠ 3) := fun e => e.2 (by rw [h]; exact h3)
      refine ⟨?_, ?_, ?_⟩
      · unfold opnE
        rw [h, h3, ho]; rfl
      · unfold opnL; rw [if_neg hne, if_neg (by rw [hn]; decide), h]
      · unfold opnR; rw [if_neg hne, if_neg (by rw [hn]; decide), h]
  · exact opn_of hc h h3 hg (.inr ho)

/-- An area that is whole. -/
structure Whl (b : List Nat) (g : Nat) (R : List (List Nat)) : Prop where
  rd : rdA b = ⟨3, g, R, 16 + baseL R⟩
  le : 16 + baseL R ≤ 1048576
  sh : ∀ r ∈ R, r.length ≤ 65536
  ex : ∃ bs ms, R = bs ++ ms ∧ b.take (16 + baseL R) = gener g bs ++ frames g bs.length ms
theorem Whl.gen {g : Nat} {rs : List (List Nat)} (hg : g < 4294967296) (hr : ∀ r ∈ rs, r.length ≤ 65536) (hb : 16 + baseL rs ≤ 1048576) : Whl (gener g rs) g rs :=
  ⟨area_gen hg hr hb, hb, hr, rs, [], by simp, by rw [List.take_of_length_le (by rw [gener_len]; exact Nat.le_refl _)]; simp [frames]⟩
theorem Whl.torn {b : List Nat} {g : Nat} {R : List (List Nat)} (h : Whl b g R) (hg : g < 4294967296) {r : List Nat} (hr : r.length ≤ 65536) {n : Nat} (hn : n < 12 + r.length) (hle : 16 + baseL R + (12 + r.length) ≤ 1048576) :
    Whl (b.take (16 + baseL R) ++ (frame g R.length r).take n) g R := by
  obtain ⟨bs, ms, rfl, e⟩ := h.ex
  have hl : (gener g bs ++ frames g bs.length ms).length = 16 + baseL (bs ++ ms) := by rw [List.length_append, gener_len, frames_len, baseL_append]; omega
  have hbb := baseL_append bs ms
  refine ⟨?_, h.le, h.sh, bs, ms, rfl, ?_⟩
  · rw [e, rdA_gen hg (fun r hr => h.sh r (by simp [hr])) (fun r hr => h.sh r (by simp [hr])) (by rw [List.length_take, frame_len]; omega), rd_tail hr hn, hbb]
    simp [Nat.add_assoc]
  · rw [e, List.take_append_of_le_length (by omega), List.take_of_length_le (by omega)]
theorem Whl.app {b : List Nat} {g : Nat} {R : List (List Nat)} (h : Whl b g R) (hg : g < 4294967296) {r : List Nat} (hr : r.length ≤ 65536) (hle : 16 + baseL R + (12 + r.length) ≤ 1048576) :
    Whl (b.take (16 + baseL R) ++ frame g R.length r) g (R ++ [r]) := by
  obtain ⟨bs, ms, rfl, e⟩ := h.ex
  have hbb := baseL_append bs ms
  have hbo : baseL (bs ++ ms ++ [r]) = baseL bs + baseL ms + (12 + r.length) := by rw [baseL_append, baseL_append]; simp [baseL]
  have hmo : baseL (ms ++ [r]) = baseL ms + (12 + r.length) := by rw [baseL_append]; simp [baseL]
  have ef : (gener g bs ++ frames g bs.length ms) ++ frame g (bs ++ ms).length r = gener g bs ++ frames g bs.length (ms ++ [r]) := by
    rw [frames_append, List.append_assoc, List.length_append]
    simp [frames]
  have hms : ∀ q ∈ ms ++ [r], q.length ≤ 65536 := fun q hq => by
    rcases List.mem_append.1 hq with hq | hq
    · exact h.sh q (by simp [hq])
    · simp at hq; subst hq; exact hr
  have hl : (gener g bs ++ frames g bs.length (ms ++ [r])).length = 16 + baseL (bs ++ ms ++ [r]) := by rw [List.length_append, gener_len, frames_len, hbo, hmo]; omega
  refine ⟨?_, by omega, fun q hq => ?_, bs, ms ++ [r], by rw [List.append_assoc], ?_⟩
  · rw [e, ef, rdA_whole hg (fun r hr => h.sh r (by simp [hr])) hms (by omega), hbo, hmo, ← List.append_assoc]
    simp [Nat.add_assoc]
  · rcases List.mem_append.1 hq with hq | hq
    · exact h.sh q hq
    · simp at hq; subst hq; exact hr
  · rw [e, ef, List.take_of_length_le (by omega)]

/-- A disk whose records are R. -/
structure Sd (d : Dk) (c g : Nat) (R : List (List Nat)) : Prop where
  lc : c < 2
  lg : g < 4294967296
  w : Whl (area d c) g R
  o : (rdA (area d (1 - c))).st = 0 ∨ (rdA (area d (1 - c))).st = 2 ∨ ((rdA (area d (1 - c))).st = 3 ∧ (rdA (area d (1 - c))).gen = (g + 4294967295) % 4294967296)
theorem Sd.opn {d : Dk} {c g : Nat} {R : List (List Nat)} (h : Sd d c g R) : opnE d.1 d.2 = false ∧ opnL d.1 d.2 = ⟨d.1, d.2, [], c, g, R.length, 16 + baseL R⟩ ∧ opnR d.1 d.2 = R :=
  opn_of2 h.lc h.w.rd rfl h.lg h.o
theorem Sd.app {d : Dk} {c g : Nat} {R : List (List Nat)} (h : Sd d c g R) {r : List Nat} (hr : r.length ≤ 65536) (hle : 16 + baseL R + (12 + r.length) ≤ 1048576) :
    (∀ n, n < (frame g R.length r).length → Sd (put1 d ⟨c, 16 + baseL R, frame g R.length r⟩ n) c g R) ∧ Sd (put1 d ⟨c, 16 + baseL R, frame g R.length r⟩ (frame g R.length r).length) c g (R ++ [r]) := by
  have ho : ∀ n, area (put1 d ⟨c, 16 + baseL R, frame g R.length r⟩ n) (1 - c) = area d (1 - c) := fun n => area_put_other _ _ _ _ h.lc (by omega) (by show 1 - c ≠ c; have := h.lc; omega)
  have hs : ∀ n, area (put1 d ⟨c, 16 + baseL R, frame g R.length r⟩ n) c = (area d c).take (16 + baseL R) ++ (frame g R.length r).take n := fun n => area_put_same d ⟨c, 16 + baseL R, frame g R.length r⟩ n h.lc
  refine ⟨fun n hn => ⟨h.lc, h.lg, ?_, by rw [ho]; exact h.o⟩, h.lc, h.lg, ?_, by rw [ho]; exact h.o⟩
  · rw [hs]; exact h.w.torn h.lg hr (by rw [frame_len] at hn; exact hn) hle
  · rw [hs, List.take_length]; exact h.w.app h.lg hr hle
theorem Sd.rew {d : Dk} {c g : Nat} {R : List (List Nat)} (h : Sd d c g R) {rs : List (List Nat)} (hr : ∀ r ∈ rs, r.length ≤ 65536) (hle : 16 + baseL rs ≤ 1048576) :
    (∀ n, n < (gener ((g + 1) % 4294967296) rs).length → Sd (put1 d ⟨1 - c, 0, gener ((g + 1) % 4294967296) rs⟩ n) c g R) ∧ Sd (put1 d ⟨1 - c, 0, gener ((g + 1) % 4294967296) rs⟩ (gener ((g + 1) % 4294967296) rs).length) (1 - c) ((g + 1) % 4294967296) rs := by
  have hc := h.lc
  have hg' : (g + 1) % 4294967296 < 4294967296 := by omega
  have hgg : g = ((g + 1) % 4294967296 + 4294967295) % 4294967296 := by have := h.lg; omega
  generalize (g + 1) % 4294967296 = g' at hg' hgg ⊢
  have ho : ∀ n, area (put1 d ⟨1 - c, 0, gener g' rs⟩ n) c = area d c := fun n => area_put_other _ _ _ _ (by show 1 - c < 2; omega) hc (by show c ≠ 1 - c; omega)
  have hs : ∀ n, area (put1 d ⟨1 - c, 0, gener g' rs⟩ n) (1 - c) = (gener g' rs).take n := fun n => by
    have := area_put_same d ⟨1 - c, 0, gener g' rs⟩ n (by show 1 - c < 2; omega)
    simpa using this
  refine ⟨fun n hn => ⟨hc, h.lg, by rw [ho]; exact h.w, ?_⟩, by omega, hg', ?_, ?_⟩
  · rw [hs]
    rw [gener_len] at hn
    by_cases h16 : n < 16
    · left; rw [rdA_short (by rw [List.length_take]; omega)]
    · right; left
      have := cut_torn (g := g') (bs := rs) (ms := []) (n := n) hg' (by simpa [baseL] using hle) (by omega) hn
      simp only [frames, List.append_nil] at this
      rw [this]
  · rw [hs, List.take_length]; exact Whl.gen hg' hr hle
  · rw [show 1 - (1 - c) = c by omega, ho, h.w.rd]
    exact .inr (.inr ⟨rfl, hgg⟩)

/-- What a crash leaves. -/
def Sx (D : Dk) (R : List (List Nat)) : Prop := (∃ c g, Sd D c g R) ∨ (R = [] ∧ D.1.length < 16 ∧ D.2.length < 16)

abbrev Pts := List (Nat × List (List Nat))
/-- The records that come back if so many bytes got down. -/
def atP : Pts → Nat → List (List Nat)
  | [], _ => []
  | [p], _ => p.2
  | p :: q :: ps, k => if q.1 ≤ k then atP (q :: ps) k else p.2
theorem atP_early : ∀ (P : Pts) (x : Nat × List (List Nat)) (k : Nat), P ≠ [] → k < x.1 → atP (P ++ [x]) k = atP P k
  | [], _, _, h, _ => absurd rfl h
  | [p], x, k, _, h => by simp [atP]; omega
  | p :: q :: ps, x, k, _, h => by
    rw [List.cons_append, List.cons_append, atP, atP, ← List.cons_append, atP_early (q :: ps) x k (by simp) h]
theorem atP_late : ∀ (P : Pts) (x : Nat × List (List Nat)) (k : Nat), (∀ p ∈ P, p.1 ≤ k) → x.1 ≤ k → atP (P ++ [x]) k = x.2
  | [], _, _, _, _ => rfl
  | [p], x, k, _, h => by simp [atP]; omega
  | p :: q :: ps, x, k, hp, h => by
    rw [List.cons_append, List.cons_append, atP, if_pos (hp q (by simp)), ← List.cons_append, atP_late (q :: ps) x k (fun p hp' => hp p (by simp [hp'])) h]

/-- A journal whose records are R, and the points of its tale. -/
structure Tl (l : Lg) (R : List (List Nat)) (P : Pts) : Prop where
  sd : Sd (play (l.a, l.b) l.ws) l.cur l.gen R
  fr : l.fr = R.length
  size : l.size = 16 + baseL R
  ne : ∃ P' a, P = P' ++ [(a, R)]
  le : ∀ p ∈ P, p.1 ≤ dirt l.ws
  po : ∀ (i : Nat) p, P[i + 1]? = some p → 0 < p.1
  cr : ∀ k, Sx (crash (l.a, l.b) k l.ws) (atP P k)
theorem crash_zero (d : Dk) (ws : List Wr) : crash d 0 ws = d := by cases ws <;> simp [crash]
theorem Tl.write {l : Lg} {R : List (List Nat)} {P : Pts} (h : Tl l R P) (x : Wr) {c' g' : Nat} {R' : List (List Nat)} (hx : 0 < x.bs.length) (h1 : ∀ n, n < x.bs.length → Sd (put1 (play (l.a, l.b) l.ws) x n) l.cur l.gen R) (h2 : Sd (put1 (play (l.a, l.b) l.ws) x x.bs.length) c' g' R')
    {l' : Lg} (ea : l'.a = l.a) (eb : l'.b = l.b) (ew : l'.ws = l.ws ++ [x]) (ec : l'.cur = c') (eg : l'.gen = g') (ef : l'.fr = R'.length) (es : l'.size = 16 + baseL R') : Tl l' R' (P ++ [(dirt l.ws + x.bs.length, R')]) := by
  have hd : dirt l'.ws = dirt l.ws + x.bs.length := by rw [ew, dirt_append]; simp [dirt]
  obtain ⟨P', a, hP⟩ := h.ne
  have hle : ∀ k, dirt l.ws ≤ k → atP P k = R := fun k hk => by
    rw [hP]
    exact atP_late P' (a, R) k (fun p hp => Nat.le_trans (h.le p (by rw [hP]; simp [hp])) hk) (Nat.le_trans (h.le (a, R) (by rw [hP]; simp)) hk)
  refine ⟨?_, ef, es, ⟨P, _, rfl⟩, fun p hp => ?_, fun i p hp => ?_, fun k => ?_⟩
  · rw [ea, eb, ew, ec, eg, play_append]; exact h2
  · rw [hd]
    rcases List.mem_append.1 hp with hp | hp
    · have := h.le p hp; omega
    · simp at hp; subst hp; exact Nat.le_refl _
  · by_cases hi : i + 1 < P.length
    · rw [List.getElem?_append_left hi] at hp
      exact h.po i p hp
    · rw [List.getElem?_append_right (by omega)] at hp
      rcases hj : i + 1 - P.length with _ | j
      · rw [hj] at hp
        simp at hp
        subst hp
        show 0 < dirt l.ws + x.bs.length
        omega
      · rw [hj] at hp; simp at hp
  · rw [ea, eb, ew, crash_app]
    by_cases hk : k ≤ dirt l.ws
    · rw [if_pos hk, atP_early P _ k (by rw [hP]; simp) (by show k < dirt l.ws + x.bs.length; omega)]
      exact h.cr k
    · rw [if_neg hk, crash, if_neg (by omega)]
      simp only [crash]
      by_cases hk2 : k < dirt l.ws + x.bs.length
      · rw [atP_early P _ k (by rw [hP]; simp) hk2, hle k (by omega), Nat.min_eq_left (by omega)]
        exact .inl ⟨_, _, h1 _ (by omega)⟩
      · rw [atP_late P _ k (fun p hp => by have := h.le p hp; omega) (by show dirt l.ws + x.bs.length ≤ k; omega), Nat.min_eq_right (by omega)]
        exact .inl ⟨_, _, h2⟩
theorem Tl.app {l : Lg} {R : List (List Nat)} {P : Pts} (h : Tl l R P) {r : List Nat} (hr : r.length ≤ 65536) (hle : l.size + (12 + r.length) ≤ 1048576) : Tl (l.app r) (R ++ [r]) (P ++ [(dirt l.ws + (12 + r.length), R ++ [r])]) := by
  obtain ⟨h1, h2⟩ := h.sd.app hr (by rw [← h.size]; exact hle)
  have hw := h.write ⟨l.cur, 16 + baseL R, frame l.gen R.length r⟩ (by rw [frame_len]; omega) h1 h2 (l' := l.app r) rfl rfl (by show l.ws ++ [_] = _; rw [h.size, h.fr]) rfl rfl (by show l.fr + 1 = _; rw [h.fr]; simp) (by show l.size + (12 + r.length) = _; rw [h.size, baseL_append]; simp [baseL]; omega)
  simp only [frame_len] at hw
  exact hw
theorem Tl.rew {l : Lg} {R : List (List Nat)} {P : Pts} (h : Tl l R P) {rs : List (List Nat)} (hr : ∀ r ∈ rs, r.length ≤ 65536) (hle : 16 + baseL rs ≤ 1048576) : Tl (l.rew rs) rs (P ++ [(dirt l.ws + (16 + baseL rs), rs)]) := by
  obtain ⟨h1, h2⟩ := h.sd.rew hr hle
  have hw := h.write ⟨1 - l.cur, 0, gener ((l.gen + 1) % 4294967296) rs⟩ (by rw [gener_len]; omega) h1 h2 (l' := l.rew rs) rfl rfl rfl rfl rfl rfl rfl
  simp only [gener_len] at hw
  exact hw
theorem Tl.syn {l : Lg} {R : List (List Nat)} {P : Pts} (h : Tl l R P) : Tl l.syn R [(0, R)] :=
  ⟨h.sd, h.fr, h.size, ⟨[], 0, rfl⟩, fun p hp => by simp at hp; subst hp; exact Nat.zero_le _, fun i p hp => by simp at hp, fun k => .inl ⟨l.cur, l.gen, by
    show Sd (crash (play (l.a, l.b) l.ws) k []) l.cur l.gen R
    simp only [crash]
    exact h.sd⟩⟩
/-- What is opened behind a crash. -/
theorem Sx.open {D : Dk} {R : List (List Nat)} (h : Sx D R) : opnE D.1 D.2 = false ∧ opnR D.1 D.2 = R ∧ Tl (opnL D.1 D.2) R [(0, R)] ∧ ((opnL D.1 D.2).ws = [] ∨ (dirt (opnL D.1 D.2).ws = 16 ∧ (opnL D.1 D.2).ws.length = 1 ∧ R = [])) := by
  rcases h with ⟨c, g, h⟩ | ⟨rfl, h1, h2⟩
  · obtain ⟨q1, q2, q3⟩ := h.opn
    rw [q2]
    exact ⟨q1, q3, ⟨h, rfl, rfl, ⟨[], 0, rfl⟩, fun p hp => by simp at hp; subst hp; exact Nat.zero_le _, fun i p hp => by simp at hp, fun k => .inl ⟨_, _, by simpa [crash, atP] using h⟩⟩, .inl rfl⟩
  · have e0 := rdA_short h1
    have e1 := rdA_short h2
    have eL : opnL D.1 D.2 = ⟨D.1, D.2, [⟨0, 0, gener 1 []⟩], 0, 1, 0, 16⟩ := by unfold opnL; rw [e0, e1]; rfl
    have hl : (gener 1 []).length = 16 := by rw [gener_len]; simp [baseL]
    have hS : ∀ n, 16 ≤ n → Sd (put1 D ⟨0, 0, gener 1 []⟩ n) 0 1 [] := fun n hn => by
      have e : put1 D ⟨0, 0, gener 1 []⟩ n = (gener 1 [], D.2) := by
        unfold put1
        rw [if_pos rfl]
        simp only [List.take_zero, List.nil_append]
        rw [List.take_of_length_le (by omega)]
      rw [e]
      exact ⟨by decide, by decide, Whl.gen (by decide) (by simp) (by simp [baseL]), .inl (by show (rdA D.2).st = 0; rw [e1])⟩
    rw [eL]
    refine ⟨by unfold opnE; rw [e0, e1]; rfl, by unfold opnR; rw [e0, e1]; rfl, ⟨?_, rfl, by simp [baseL], ⟨[], 0, rfl⟩, fun p hp => by simp at hp; subst hp; exact Nat.zero_le _, fun i p hp => by simp at hp, fun k => ?_⟩, .inr ⟨by simp [dirt, hl], rfl, rfl⟩⟩
    · exact hS _ (by rw [hl]; exact Nat.le_refl _)
    · show Sx (crash (D.1, D.2) k [⟨0, 0, gener 1 []⟩]) []
      by_cases hk : k = 0
      · subst hk; rw [crash_zero]; exact .inr ⟨rfl, h1, h2⟩
      · rw [crash, if_neg hk]
        simp only [crash]
        by_cases hk2 : k < 16
        · refine .inr ⟨rfl, ?_, h2⟩
          show ((D.1).take 0 ++ (gener 1 []).take (min k (gener 1 []).length)).length < 16
          rw [List.take_zero, List.nil_append, List.length_take]
          omega
        · exact .inl ⟨_, _, hS _ (by omega)⟩
theorem Tl.open {l : Lg} {R : List (List Nat)} {P : Pts} (h : Tl l R P) (k : Nat) : opnE (crash (l.a, l.b) k l.ws).1 (crash (l.a, l.b) k l.ws).2 = false ∧ opnR (crash (l.a, l.b) k l.ws).1 (crash (l.a, l.b) k l.ws).2 = atP P k ∧ Tl (opnL (crash (l.a, l.b) k l.ws).1 (crash (l.a, l.b) k l.ws).2) (atP P k) [(0, atP P k)] ∧ ((opnL (crash (l.a, l.b) k l.ws).1 (crash (l.a, l.b) k l.ws).2).ws = [] ∨ (dirt (opnL (crash (l.a, l.b) k l.ws).1 (crash (l.a, l.b) k l.ws).2).ws = 16 ∧ (opnL (crash (l.a, l.b) k l.ws).1 (crash (l.a, l.b) k l.ws).2).ws.length = 1 ∧ atP P k = [])) :=
  (h.cr k).open
theorem Tl.last {l : Lg} {R : List (List Nat)} {P : Pts} (h : Tl l R P) : atP P (dirt l.ws) = R := by
  obtain ⟨P', a, rfl⟩ := h.ne
  exact atP_late P' (a, R) _ (fun p hp => h.le p (by simp [hp])) (h.le (a, R) (by simp))
/-- What a step makes of a journal. -/
def Nxt (l l' : Lg) : Prop := l' = l ∨ (∃ r : List Nat, r.length ≤ 65536 ∧ (∀ x ∈ r, x < 256) ∧ l.size + (12 + r.length) ≤ 1048576 ∧ l' = l.app r) ∨ (∃ rs : List (List Nat), (∀ r ∈ rs, r.length ≤ 65536) ∧ (∀ r ∈ rs, ∀ x ∈ r, x < 256) ∧ 16 + baseL rs ≤ 1048576 ∧ l' = l.rew rs) ∨ l' = l.syn
theorem tl_first : Tl (opnL [] []) [] [(0, [])] := (Sx.open (D := ([], [])) (.inr ⟨rfl, by simp, by simp⟩)).2.2.1
end Jn
