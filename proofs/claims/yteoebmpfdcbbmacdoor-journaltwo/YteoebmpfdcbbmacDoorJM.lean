/-
  The journal's bytes: sums, numbers, frames, areas.
-/
import Derived.Test.YteoebmpfdcbbmacDoorRows
namespace Jn
set_option maxRecDepth 100000

/-- What the sum's register becomes when half a byte leaves it. -/
def tab : Nat → Nat
  | 0 => 0 | 1 => 498536548 | 2 => 997073096 | 3 => 651767980 | 4 => 1994146192 | 5 => 1802195444 | 6 => 1303535960 | 7 => 1342533948
  | 8 => 3988292384 | 9 => 4027552580 | 10 => 3604390888 | 11 => 3412177804 | 12 => 2607071920 | 13 => 2262029012 | 14 => 2685067896 | 15 => 3183342108
  | _ => 0
def half (s : Nat) : Nat := tab (s % 16) ^^^ (s / 16)
def step (s x : Nat) : Nat := half (half (s ^^^ x))
def reg (s : Nat) (L : List Nat) : Nat := L.foldl step s
def crc (L : List Nat) : Nat := 4294967295 - reg 4294967295 L

theorem tab_lt (n : Nat) : tab n < 4294967296 := by
  unfold tab
  split <;> decide

theorem half_lt {s : Nat} (h : s < 4294967296) : half s < 4294967296 := by
  unfold half
  exact Nat.xor_lt_two_pow (n := 32) (tab_lt _) (by omega)

theorem step_lt {s x : Nat} (h : s < 4294967296) (hx : x < 256) : step s x < 4294967296 := by
  unfold step
  exact half_lt (half_lt (Nat.xor_lt_two_pow (n := 32) h (by omega)))

theorem reg_lt : ∀ (L : List Nat) {s : Nat}, s < 4294967296 → (∀ x ∈ L, x < 256) → reg s L < 4294967296
  | [], _, h, _ => h
  | x :: L, s, h, hL => by
    rw [show reg s (x :: L) = reg (step s x) L from rfl]
    exact reg_lt L (step_lt h (hL x (by simp))) fun y hy => hL y (by simp [hy])

theorem crc_lt (L : List Nat) : crc L < 4294967296 := by unfold crc; omega

theorem reg_append (s : Nat) (L M : List Nat) : reg s (L ++ M) = reg (reg s L) M := by
  unfold reg; rw [List.foldl_append]

/-- The table's high halves are all unlike. -/
theorem tab_hi : ∀ a, a < 16 → ∀ b, b < 16 → tab a / 268435456 = tab b / 268435456 → a = b := by decide

theorem half_inj {s t : Nat} (hs : s < 4294967296) (ht : t < 4294967296) (h : half s = half t) : s = t := by
  unfold half at h
  have hd : ∀ a b, b < 268435456 → (a ^^^ b) / 268435456 = a / 268435456 := by
    intro a b hb
    have e1 : ∀ n : Nat, n / 268435456 = n >>> 28 := fun n => by rw [Nat.shiftRight_eq_div_pow]
    have e2 : b >>> 28 = 0 := by rw [Nat.shiftRight_eq_div_pow]; exact Nat.div_eq_of_lt hb
    rw [e1, e1, Nat.shiftRight_xor_distrib, e2, Nat.xor_zero]
  have h1 : (tab (s % 16) ^^^ (s / 16)) / 268435456 = (tab (t % 16) ^^^ (t / 16)) / 268435456 := by rw [h]
  rw [hd _ _ (by omega), hd _ _ (by omega)] at h1
  have h2 := tab_hi _ (Nat.mod_lt _ (by decide)) _ (Nat.mod_lt _ (by decide)) h1
  rw [h2] at h
  have h3 : s / 16 = t / 16 := by
    have : tab (t % 16) ^^^ (tab (t % 16) ^^^ (s / 16)) = tab (t % 16) ^^^ (tab (t % 16) ^^^ (t / 16)) := by rw [h]
    rw [← Nat.xor_assoc, ← Nat.xor_assoc, Nat.xor_self, Nat.zero_xor, Nat.zero_xor] at this
    exact this
  omega

theorem xor_cancel_right {a b c : Nat} (h : a ^^^ c = b ^^^ c) : a = b := by
  have := congrArg (fun z => z ^^^ c) h
  simpa [Nat.xor_assoc] using this
theorem xor_cancel_left {a b c : Nat} (h : c ^^^ a = c ^^^ b) : a = b := by
  rw [Nat.xor_comm c a, Nat.xor_comm c b] at h
  exact xor_cancel_right h

theorem step_inj {s t x : Nat} (hs : s < 4294967296) (ht : t < 4294967296) (hx : x < 256) (h : step s x = step t x) : s = t := by
  unfold step at h
  have b1 : s ^^^ x < 4294967296 := Nat.xor_lt_two_pow (n := 32) hs (by omega)
  have b2 : t ^^^ x < 4294967296 := Nat.xor_lt_two_pow (n := 32) ht (by omega)
  exact xor_cancel_right (half_inj b1 b2 (half_inj (half_lt b1) (half_lt b2) h))

theorem step_inj' {s x y : Nat} (hs : s < 4294967296) (hx : x < 256) (hy : y < 256) (h : step s x = step s y) : x = y := by
  unfold step at h
  have b1 : s ^^^ x < 4294967296 := Nat.xor_lt_two_pow (n := 32) hs (by omega)
  have b2 : s ^^^ y < 4294967296 := Nat.xor_lt_two_pow (n := 32) hs (by omega)
  exact xor_cancel_left (half_inj b1 b2 (half_inj (half_lt b1) (half_lt b2) h))

theorem reg_inj : ∀ (L : List Nat) {s t : Nat}, s < 4294967296 → t < 4294967296 → (∀ x ∈ L, x < 256) → reg s L = reg t L → s = t
  | [], _, _, _, _, _, h => h
  | x :: L, s, t, hs, ht, hL, h => by
    have hx := hL x (by simp)
    exact step_inj hs ht hx (reg_inj L (step_lt hs hx) (step_lt ht hx) (fun y hy => hL y (by simp [hy])) h)

/-- Four bytes of a number, the high one first. -/
def w4 (n : Nat) : List Nat := [n / 16777216 % 256, n / 65536 % 256, n / 256 % 256, n % 256]
theorem w4_len (n : Nat) : (w4 n).length = 4 := rfl
theorem w4_lt (n : Nat) : ∀ x ∈ w4 n, x < 256 := by
  intro x hx
  simp [w4] at hx
  omega

/-- The number of the four bytes at a place. -/
def num (L : List Nat) (i : Nat) : Nat := ((L.getD i 0 * 256 + L.getD (i + 1) 0) * 256 + L.getD (i + 2) 0) * 256 + L.getD (i + 3) 0

theorem getD_lt {L : List Nat} (hL : ∀ x ∈ L, x < 256) (i : Nat) : L.getD i 0 < 256 := by
  rw [List.getD_eq_getElem?_getD]
  cases h : L[i]? with
  | none => simp
  | some x => exact hL x (List.mem_of_getElem? h)

theorem num_lt {L : List Nat} (hL : ∀ x ∈ L, x < 256) (i : Nat) : num L i < 4294967296 := by
  have h0 := getD_lt hL i
  have h1 := getD_lt hL (i + 1)
  have h2 := getD_lt hL (i + 2)
  have h3 := getD_lt hL (i + 3)
  unfold num
  omega

theorem num_w4 {n : Nat} (hn : n < 4294967296) (L : List Nat) : num (w4 n ++ L) 0 = n := by
  simp [num, w4]
  omega

theorem num_skip (L M : List Nat) (i : Nat) : num (L ++ M) (L.length + i) = num M i := by
  unfold num
  simp only [List.getD_eq_getElem?_getD, List.getElem?_append_right (show L.length ≤ L.length + i by omega), List.getElem?_append_right (show L.length ≤ L.length + i + 1 by omega), List.getElem?_append_right (show L.length ≤ L.length + i + 2 by omega), List.getElem?_append_right (show L.length ≤ L.length + i + 3 by omega)]
  simp only [show L.length + i - L.length = i by omega, show L.length + i + 1 - L.length = i + 1 by omega, show L.length + i + 2 - L.length = i + 2 by omega, show L.length + i + 3 - L.length = i + 3 by omega]

theorem num_front (L M : List Nat) (i : Nat) (h : i + 4 ≤ L.length) : num (L ++ M) i = num L i := by
  unfold num
  simp only [List.getD_eq_getElem?_getD, List.getElem?_append_left (show i < L.length by omega), List.getElem?_append_left (show i + 1 < L.length by omega), List.getElem?_append_left (show i + 2 < L.length by omega), List.getElem?_append_left (show i + 3 < L.length by omega)]

theorem num_drop (L : List Nat) (k i : Nat) : num (L.drop k) i = num L (k + i) := by
  unfold num
  simp only [List.getD_eq_getElem?_getD, List.getElem?_drop]
  simp only [Nat.add_assoc]

theorem num_take (L : List Nat) (k i : Nat) (h : i + 4 ≤ k) : num (L.take k) i = num L i := by
  unfold num
  simp only [List.getD_eq_getElem?_getD, List.getElem?_take, if_pos (show i < k by omega), if_pos (show i + 1 < k by omega), if_pos (show i + 2 < k by omega), if_pos (show i + 3 < k by omega)]

/-- Four bytes that are read are laid down as they were. -/
theorem w4_num {L : List Nat} (hL : ∀ x ∈ L, x < 256) (i : Nat) (h : i + 4 ≤ L.length) : w4 (num L i) = (L.drop i).take 4 := by
  have hd : ∀ x ∈ L.drop i, x < 256 := fun x hx => hL x (List.mem_of_mem_drop hx)
  have hn : num L i = num (L.drop i) 0 := by rw [num_drop, Nat.add_zero]
  have hl : 4 ≤ (L.drop i).length := by rw [List.length_drop]; omega
  rw [hn]
  match hq : L.drop i, hl, hd with
  | a :: b :: c :: d :: r, _, hd =>
    have ha := hd a (by simp)
    have hb := hd b (by simp)
    have hc := hd c (by simp)
    have hdd := hd d (by simp)
    simp [num, w4]
    omega

/-- A frame's third number. -/
def sel (g k n s : Nat) : Nat := crc (w4 g ++ w4 k ++ w4 n ++ w4 s)
/-- A record's frame. -/
def frame (g k : Nat) (r : List Nat) : List Nat := w4 r.length ++ w4 (crc r) ++ w4 (sel g k r.length (crc r)) ++ r
theorem frame_len (g k : Nat) (r : List Nat) : (frame g k r).length = 12 + r.length := by
  simp [frame, w4_len]; omega
def frames (g : Nat) : Nat → List (List Nat) → List Nat
  | _, [] => []
  | k, r :: rs => frame g k r ++ frames g (k + 1) rs
def baseL (rs : List (List Nat)) : Nat := (rs.map fun r => 12 + r.length).sum
theorem frames_len (g : Nat) : ∀ (rs : List (List Nat)) (k : Nat), (frames g k rs).length = baseL rs
  | [], _ => rfl
  | r :: rs, k => by
    rw [frames, List.length_append, frame_len, frames_len g rs (k + 1)]
    simp [baseL]
theorem frames_append (g : Nat) : ∀ (rs qs : List (List Nat)) (k : Nat), frames g k (rs ++ qs) = frames g k rs ++ frames g (k + rs.length) qs
  | [], qs, k => by simp [frames]
  | r :: rs, qs, k => by
    rw [List.cons_append, frames, frames, frames_append g rs qs (k + 1), List.append_assoc]
    simp [Nat.add_assoc, Nat.add_comm 1]
theorem baseL_append (rs qs : List (List Nat)) : baseL (rs ++ qs) = baseL rs + baseL qs := by simp [baseL]

/-- An area's head. -/
def front (g base : Nat) : List Nat := [119, 101, 102, 116] ++ w4 g ++ w4 base
def head (g base : Nat) : List Nat := front g base ++ w4 (crc (front g base))
theorem head_len (g base : Nat) : (head g base).length = 16 := rfl
/-- A generation from its head on. -/
def gener (g : Nat) (rs : List (List Nat)) : List Nat := head g (baseL rs) ++ frames g 0 rs
theorem gener_len (g : Nat) (rs : List (List Nat)) : (gener g rs).length = 16 + baseL rs := by
  rw [gener, List.length_append, head_len, frames_len]

/-- What an area's bytes tell: 0 short, 1 spoilt, 2 torn, 3 whole. -/
structure Ct where
  st : Nat
  gen : Nat
  recs : List (List Nat)
  fin : Nat

def fits (g k : Nat) (L : List Nat) : Bool := num L 8 == sel g k (num L 0) (num L 4) && decide (num L 0 ≤ 65536)

/-- The frames, read on from a place. -/
def rd (g base : Nat) (L : List Nat) (recs : List (List Nat)) (fin : Nat) (met : Bool) : Ct :=
  if h : L.length < 12 then (if met then ⟨3, g, recs, fin⟩ else ⟨1, 0, [], 0⟩)
  else if fits g recs.length L = false then ⟨1, 0, [], 0⟩
  else if L.length < 12 + num L 0 then (if met then ⟨3, g, recs, fin⟩ else ⟨1, 0, [], 0⟩)
  else if crc ((L.drop 12).take (num L 0)) = num L 4 then
    rd g base (L.drop (12 + num L 0)) (recs ++ [(L.drop 12).take (num L 0)]) (fin + (12 + num L 0)) (met || fin + (12 + num L 0) == base)
  else ⟨1, 0, [], 0⟩
termination_by L.length
decreasing_by simp only [List.length_drop]; omega

def headOk (b : List Nat) : Bool := num b 0 == 2003134068 && num b 12 == crc (b.take 12) && decide (num b 8 ≤ 1048560)

def rdA (b : List Nat) : Ct :=
  if b.length < 16 then ⟨0, 0, [], 0⟩
  else if 1048576 < b.length ∨ headOk b = false then ⟨1, 0, [], 0⟩
  else if b.length < 16 + num b 8 then ⟨2, 0, [], 0⟩
  else rd (num b 4) (16 + num b 8) (b.drop 16) [] 16 (16 == 16 + num b 8)
end Jn
