/-
  The journal as a list of writes.
-/
import Derived.Test.YteoebmpfdcbbmacDoorJM
namespace Jn
set_option maxRecDepth 100000

structure Wr where
  ar : Nat
  pl : Nat
  bs : List Nat
structure Lg where
  a : List Nat
  b : List Nat
  ws : List Wr
  cur : Nat
  gen : Nat
  fr : Nat
  size : Nat

abbrev Dk := List Nat × List Nat
def area (d : Dk) (i : Nat) : List Nat := if i = 0 then d.1 else d.2
def put1 (d : Dk) (x : Wr) (n : Nat) : Dk := if x.ar = 0 then (d.1.take x.pl ++ x.bs.take n, d.2) else (d.1, d.2.take x.pl ++ x.bs.take n)
/-- All writes get down. -/
def play (d : Dk) : List Wr → Dk
  | [] => d
  | x :: xs => play (put1 d x x.bs.length) xs
/-- The first bytes of the writes get down. -/
def crash (d : Dk) : Nat → List Wr → Dk
  | _, [] => d
  | k, x :: xs => if k = 0 then d else crash (put1 d x (min k x.bs.length)) (k - min k x.bs.length) xs
def dirt (ws : List Wr) : Nat := (ws.map (·.bs.length)).sum
/-- Writes that fit the areas that they come to. -/
def okW (d : Dk) : List Wr → Prop
  | [] => True
  | x :: xs => x.ar < 2 ∧ x.pl ≤ (area d x.ar).length ∧ 0 < x.bs.length ∧ x.pl + x.bs.length ≤ 1048576 ∧ (∀ y ∈ x.bs, y < 256) ∧ okW (put1 d x x.bs.length) xs

theorem play_append (d : Dk) : ∀ (xs ys : List Wr), play d (xs ++ ys) = play (play d xs) ys
  | [], _ => rfl
  | x :: xs, ys => play_append (put1 d x x.bs.length) xs ys
theorem okW_append : ∀ (xs ys : List Wr) (d : Dk), okW d (xs ++ ys) ↔ okW d xs ∧ okW (play d xs) ys
  | [], ys, d => by simp [okW, play]
  | x :: xs, ys, d => by
    simp only [List.cons_append, okW, play, okW_append xs ys]
    constructor
    · rintro ⟨h1, h2, h3, h4, h5, h6, h7⟩; exact ⟨⟨h1, h2, h3, h4, h5, h6⟩, h7⟩
    · rintro ⟨⟨h1, h2, h3, h4, h5, h6⟩, h7⟩; exact ⟨h1, h2, h3, h4, h5, h6, h7⟩
theorem dirt_append (xs ys : List Wr) : dirt (xs ++ ys) = dirt xs + dirt ys := by simp [dirt]
theorem okW.le : ∀ {xs : List Wr} {d : Dk}, okW d xs → dirt xs ≤ 1048576 * xs.length
  | [], _, _ => by simp [dirt]
  | x :: xs, d, h => by
    have := okW.le h.2.2.2.2.2
    have := h.2.2.2.1
    simp [dirt] at *
    omega
theorem area_put_same (d : Dk) (x : Wr) (n : Nat) (_h : x.ar < 2) : area (put1 d x n) x.ar = (area d x.ar).take x.pl ++ x.bs.take n := by
  unfold area put1
  split <;> simp_all
theorem area_put_other (d : Dk) (x : Wr) (n i : Nat) (h : x.ar < 2) (hi : i < 2) (hne : i ≠ x.ar) : area (put1 d x n) i = area d i := by
  unfold area put1
  by_cases h0 : x.ar = 0
  · rw [if_pos h0, if_neg (by omega), if_neg (by omega)]
  · rw [if_neg h0, if_pos (by omega), if_pos (by omega)]
theorem put_bytes {d : Dk} (ha : ∀ y ∈ d.1, y < 256) (hb : ∀ y ∈ d.2, y < 256) {x : Wr} (hx : ∀ y ∈ x.bs, y < 256) (n : Nat) : (∀ y ∈ (put1 d x n).1, y < 256) ∧ ∀ y ∈ (put1 d x n).2, y < 256 := by
  unfold put1
  split
  · refine ⟨fun y hy => ?_, hb⟩
    rcases List.mem_append.1 hy with h | h
    · exact ha y (List.mem_of_mem_take h)
    · exact hx y (List.mem_of_mem_take h)
  · refine ⟨ha, fun y hy => ?_⟩
    rcases List.mem_append.1 hy with h | h
    · exact hb y (List.mem_of_mem_take h)
    · exact hx y (List.mem_of_mem_take h)
theorem put_len {d : Dk} (ha : d.1.length ≤ 1048576) (hb : d.2.length ≤ 1048576) {x : Wr} (hx : x.pl + x.bs.length ≤ 1048576) (n : Nat) : (put1 d x n).1.length ≤ 1048576 ∧ (put1 d x n).2.length ≤ 1048576 := by
  unfold put1
  split <;> simp <;> omega

/-- A journal that holds together. -/
structure Lg.Ok (l : Lg) : Prop where
  ws : okW (l.a, l.b) l.ws
  cur : l.cur < 2
  gen : l.gen < 4294967296
  low : 16 + 12 * l.fr ≤ l.size
  high : l.size ≤ 1048576
  fits : l.size ≤ (area (play (l.a, l.b) l.ws) l.cur).length
  ba : ∀ y ∈ l.a, y < 256
  bb : ∀ y ∈ l.b, y < 256
  la : l.a.length ≤ 1048576
  lb : l.b.length ≤ 1048576

/-- Append: a frame more. -/
def Lg.app (l : Lg) (r : List Nat) : Lg := { l with ws := l.ws ++ [⟨l.cur, l.size, frame l.gen l.fr r⟩], fr := l.fr + 1, size := l.size + (12 + r.length) }
/-- A generation is begun in an area. -/
def Lg.beg (l : Lg) (ar g : Nat) (rs : List (List Nat)) : Lg := { l with ws := l.ws ++ [⟨ar, 0, gener g rs⟩], cur := ar, gen := g, fr := rs.length, size := 16 + baseL rs }
def Lg.rew (l : Lg) (rs : List (List Nat)) : Lg := l.beg (1 - l.cur) ((l.gen + 1) % 4294967296) rs
def Lg.syn (l : Lg) : Lg := { l with a := (play (l.a, l.b) l.ws).1, b := (play (l.a, l.b) l.ws).2, ws := [] }

theorem frame_bytes {g k : Nat} {r : List Nat} (hr : ∀ y ∈ r, y < 256) : ∀ y ∈ frame g k r, y < 256 := by
  intro y hy
  simp only [frame, List.mem_append] at hy
  rcases hy with ((hy | hy) | hy) | hy
  · exact w4_lt _ y hy
  · exact w4_lt _ y hy
  · exact w4_lt _ y hy
  · exact hr y hy
theorem frames_bytes {g : Nat} : ∀ {rs : List (List Nat)} {k : Nat}, (∀ r ∈ rs, ∀ y ∈ r, y < 256) → ∀ y ∈ frames g k rs, y < 256
  | [], _, _, y, hy => by simp [frames] at hy
  | r :: rs, k, h, y, hy => by
    rw [frames] at hy
    rcases List.mem_append.1 hy with hy | hy
    · exact frame_bytes (h r (by simp)) y hy
    · exact frames_bytes (fun q hq => h q (by simp [hq])) y hy
theorem head_bytes (g base : Nat) : ∀ y ∈ head g base, y < 256 := by
  intro y hy
  simp only [head, front, List.mem_append] at hy
  rcases hy with ((hy | hy) | hy) | hy
  · simp at hy; omega
  · exact w4_lt _ y hy
  · exact w4_lt _ y hy
  · exact w4_lt _ y hy
theorem gener_bytes {g : Nat} {rs : List (List Nat)} (h : ∀ r ∈ rs, ∀ y ∈ r, y < 256) : ∀ y ∈ gener g rs, y < 256 := by
  intro y hy
  rcases List.mem_append.1 hy with hy | hy
  · exact head_bytes _ _ y hy
  · exact frames_bytes h y hy

theorem Lg.Ok.app {l : Lg} (h : l.Ok) {r : List Nat} (hr : ∀ y ∈ r, y < 256) (hs : l.size + (12 + r.length) ≤ 1048576) : (l.app r).Ok := by
  refine ⟨?_, h.cur, h.gen, ?_, hs, ?_, h.ba, h.bb, h.la, h.lb⟩
  · show okW (l.a, l.b) (l.ws ++ [_])
    rw [okW_append]
    refine ⟨h.ws, h.cur, h.fits, by rw [frame_len]; omega, by rw [frame_len]; exact hs, frame_bytes hr, trivial⟩
  · show 16 + 12 * (l.fr + 1) ≤ l.size + (12 + r.length)
    have := h.low
    omega
  · show l.size + (12 + r.length) ≤ (area (play (l.a, l.b) (l.ws ++ [_])) l.cur).length
    rw [play_append]
    have := area_put_same (play (l.a, l.b) l.ws) ⟨l.cur, l.size, frame l.gen l.fr r⟩ (frame l.gen l.fr r).length h.cur
    simp only at this
    simp only [play]
    rw [this, List.length_append, List.length_take, List.length_take, frame_len]
    have := h.fits
    omega
theorem Lg.Ok.beg {l : Lg} (h : l.Ok) {ar g : Nat} (har : ar < 2) (hg : g < 4294967296) {rs : List (List Nat)} (hr : ∀ r ∈ rs, ∀ y ∈ r, y < 256) (hs : 16 + baseL rs ≤ 1048576) : (l.beg ar g rs).Ok := by
  have hb : 12 * rs.length ≤ baseL rs := by
    clear hs hr
    induction rs with
    | nil => simp
    | cons r rs ih => simp [baseL] at *; omega
  refine ⟨?_, har, hg, ?_, hs, ?_, h.ba, h.bb, h.la, h.lb⟩
  · show okW (l.a, l.b) (l.ws ++ [_])
    rw [okW_append]
    exact ⟨h.ws, har, Nat.zero_le _, by rw [gener_len]; omega, by rw [gener_len]; simp only; omega, gener_bytes hr, trivial⟩
  · show 16 + 12 * rs.length ≤ 16 + baseL rs
    omega
  · show 16 + baseL rs ≤ (area (play (l.a, l.b) (l.ws ++ [_])) ar).length
    rw [play_append]
    have := area_put_same (play (l.a, l.b) l.ws) ⟨ar, 0, gener g rs⟩ (gener g rs).length har
    simp only at this
    simp only [play]
    rw [this, List.length_append, List.length_take, List.length_take, gener_len]
    omega
theorem play_ok : ∀ {ws : List Wr} {d : Dk}, okW d ws → (∀ y ∈ d.1, y < 256) → (∀ y ∈ d.2, y < 256) → d.1.length ≤ 1048576 → d.2.length ≤ 1048576 → (∀ y ∈ (play d ws).1, y < 256) ∧ (∀ y ∈ (play d ws).2, y < 256) ∧ (play d ws).1.length ≤ 1048576 ∧ (play d ws).2.length ≤ 1048576
  | [], _, _, h1, h2, h3, h4 => ⟨h1, h2, h3, h4⟩
  | x :: xs, d, h, h1, h2, h3, h4 => by
    have q1 := put_bytes h1 h2 h.2.2.2.2.1 x.bs.length
    have q2 := put_len h3 h4 h.2.2.2.1 x.bs.length
    exact play_ok (ws := xs) h.2.2.2.2.2 q1.1 q1.2 q2.1 q2.2
theorem Lg.Ok.syn {l : Lg} (h : l.Ok) : l.syn.Ok := by
  obtain ⟨h1, h2, h3, h4⟩ := play_ok h.ws h.ba h.bb h.la h.lb
  exact ⟨trivial, h.cur, h.gen, h.low, h.high, h.fits, h1, h2, h3, h4⟩
def newerN (s0 g0 s1 g1 : Nat) : Nat := if s1 ≠ 3 then 0 else if s0 = 3 ∧ (g0 + 4294967296 - g1) % 4294967296 < 2147483648 then 0 else 1
end Jn
