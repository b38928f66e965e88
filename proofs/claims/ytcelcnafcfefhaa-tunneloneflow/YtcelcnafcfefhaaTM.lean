/-
  Datagrams, frames and flows as lists of bytes.
-/
import Derived.Test.YtcelcnafcfefhaaIM
namespace Go.Proofs.Ytcelcnafcfefhaa.N.Tn
open M

/-- A number's two and four bytes, the highest first. -/
def be2 (v : Nat) : List Nat := [v / 256 % 256, v % 256]
def be4 (v : Nat) : List Nat := [v / 16777216 % 256, v / 65536 % 256, v / 256 % 256, v % 256]

/-- A datagram. -/
structure Dg where
  s : Nat
  d : Nat
  B : List Nat

structure Dg.Ok (x : Dg) : Prop where
  s : x.s < 65536
  d : x.d < 65536

/-- A datagram's bytes with that length and that sum. -/
def udp (x : Dg) (len sum : Nat) : List Nat := x.s / 256 % 256 :: x.s % 256 :: x.d / 256 % 256 :: x.d % 256 :: len / 256 % 256 :: len % 256 :: sum / 256 :: sum % 256 :: x.B

theorem udp_len (x : Dg) (len sum : Nat) : (udp x len sum).length = 8 + x.B.length := by simp [udp]; omega

/-- What a datagram's sum covers. -/
def cov (src dst : Nat) (b : List Nat) (len : Nat) : List Nat := be4 src ++ be4 dst ++ [0, 17] ++ be2 len ++ b.take len

theorem cov_len (src dst : Nat) (b : List Nat) (len : Nat) : (cov src dst b len).length = 12 + min len b.length := by simp [cov, be4, be2]; omega

/-- Of all its bytes. -/
theorem cov_udp (src dst : Nat) (x : Dg) (sum : Nat) : cov src dst (udp x (8 + x.B.length) sum) (8 + x.B.length) = be4 src ++ be4 dst ++ [0, 17] ++ be2 (8 + x.B.length) ++ udp x (8 + x.B.length) sum := by
  unfold cov
  rw [List.take_of_length_le (by rw [udp_len]; omega)]

/-- What stands ahead of it. -/
def pseudo (src dst len : Nat) : List Nat := be4 src ++ be4 dst ++ [0, 17] ++ be2 len
theorem pseudo_len (src dst len : Nat) : (pseudo src dst len).length = 12 := rfl
theorem cov_pseudo (src dst : Nat) (b : List Nat) (len : Nat) : cov src dst b len = pseudo src dst len ++ b.take len := rfl

theorem tot_udp (x : Dg) (len sum : Nat) : tot false (udp x len sum) = tot false (udp x len 0) + sum := by
  simp only [udp, tot]; simp; omega

theorem tot_cov (src dst : Nat) (x : Dg) (sum : Nat) : tot false (cov src dst (udp x (8 + x.B.length) sum) (8 + x.B.length)) = tot false (cov src dst (udp x (8 + x.B.length) 0) (8 + x.B.length)) + sum := by
  rw [cov_pseudo, cov_pseudo, tot_append, tot_append, pseudo_len, show par false 12 = false from rfl, List.take_of_length_le (by rw [udp_len]; omega), List.take_of_length_le (by rw [udp_len]; omega), tot_udp]
  omega

/-- The sum that stands in a datagram. -/
def usum (src dst : Nat) (x : Dg) : Nat :=
  if csum (cov src dst (udp x (8 + x.B.length) 0) (8 + x.B.length)) = 0 then 65535 else csum (cov src dst (udp x (8 + x.B.length) 0) (8 + x.B.length))

theorem usum_lt (src dst : Nat) (x : Dg) : usum src dst x < 65536 ∧ usum src dst x ≠ 0 := by
  unfold usum
  have := csum_lt (cov src dst (udp x (8 + x.B.length) 0) (8 + x.B.length))
  split
  · omega
  · omega

/-- A datagram's bytes, with its sum or without. -/
def builtU (src dst : Nat) (x : Dg) (sum : Bool) : List Nat := udp x (8 + x.B.length) (if sum then usum src dst x else 0)

def buE (x : Dg) : Int := if 65527 < x.B.length then 2 else 0
def buL (src dst : Nat) (x : Dg) (sum : Bool) : List Nat := if 65527 < x.B.length then [] else builtU src dst x sum

theorem csum_built (src dst : Nat) (x : Dg) : csum (cov src dst (builtU src dst x true) (8 + x.B.length)) = 0 := by
  unfold builtU
  rw [if_pos rfl]
  have hT := tot_cov src dst x (usum src dst x)
  unfold usum at hT ⊢
  generalize hs : csum (cov src dst (udp x (8 + x.B.length) 0) (8 + x.B.length)) = s at *
  unfold csum at hs ⊢
  rw [hT]
  generalize tot false (cov src dst (udp x (8 + x.B.length) 0) (8 + x.B.length)) = T at *
  unfold fold at hs ⊢
  by_cases h0 : T = 0
  · subst h0
    simp at hs
    subst hs
    simp
  · rw [if_neg h0] at hs
    by_cases hz : s = 0
    · subst hz
      rw [if_pos rfl, if_neg (by omega)]
      omega
    · rw [if_neg hz, if_neg (by omega)]
      omega

/-- What is read as a datagram. -/
def num2 (b : List Nat) (i : Nat) : Nat := b.getD i 0 * 256 + b.getD (i + 1) 0
def puE (src dst : Nat) (b : List Nat) : Int :=
  if 65535 < b.length then 2 else if b.length < 8 then 72 else if num2 b 4 < 8 ∨ b.length < num2 b 4 then 72 else
  if num2 b 6 ≠ 0 ∧ csum (cov src dst b (num2 b 4)) ≠ 0 then 73 else 0
def none0 : Dg := ⟨0, 0, []⟩
def puD (src dst : Nat) (b : List Nat) : Dg := if puE src dst b = 0 then ⟨num2 b 0, num2 b 2, (b.take (num2 b 4)).drop 8⟩ else none0

theorem num_udp {x : Dg} (hx : x.Ok) (len sum : Nat) (hl : len < 65536) :
    num2 (udp x len sum) 0 = x.s ∧ num2 (udp x len sum) 2 = x.d ∧ num2 (udp x len sum) 4 = len ∧ num2 (udp x len sum) 6 = sum := by
  obtain ⟨h1, h2⟩ := hx
  simp only [num2, udp, List.getD_cons_zero, List.getD_cons_succ]
  omega

/-- What is built is read back. -/
theorem puE_built (src dst : Nat) (x : Dg) (hx : x.Ok) (hl : x.B.length ≤ 65527) : puE src dst (builtU src dst x true) = 0 := by
  obtain ⟨_, _, h3, h4⟩ := num_udp hx (8 + x.B.length) (usum src dst x) (by omega)
  unfold puE
  have hc := csum_built src dst x
  unfold builtU at hc ⊢
  rw [if_pos rfl] at hc ⊢
  rw [udp_len, h3, h4, if_neg (by omega), if_neg (by omega), if_neg (by omega), if_neg (fun h => h.2 hc)]

theorem puE_plain (src dst s' d' : Nat) (x : Dg) (hx : x.Ok) (hl : x.B.length ≤ 65527) : puE s' d' (builtU src dst x false) = 0 := by
  obtain ⟨_, _, h3, h4⟩ := num_udp hx (8 + x.B.length) 0 (by omega)
  show puE s' d' (udp x (8 + x.B.length) 0) = 0
  unfold puE
  rw [udp_len, h3, h4, if_neg (by omega), if_neg (by omega), if_neg (by omega), if_neg (fun h => h.1 rfl)]

theorem puD_built (src dst s' d' : Nat) (x : Dg) (sum : Bool) (hx : x.Ok) (hl : x.B.length ≤ 65527) (he : puE s' d' (builtU src dst x sum) = 0) : puD s' d' (builtU src dst x sum) = x := by
  unfold puD
  rw [if_pos he]
  unfold builtU
  obtain ⟨h1, h2, h3, _⟩ := num_udp hx (8 + x.B.length) (if sum then usum src dst x else 0) (by omega)
  rw [h1, h2, h3, List.take_of_length_le (by rw [udp_len]; omega)]
  rfl

/-- A bit of a datagram that is turned over is told. -/
theorem flip_body (src dst : Nat) (b : List Nat) (i x y m : Nat) (hl : b.length ≤ 65535) (h8 : 8 ≤ b.length) (hn : num2 b 4 = b.length) (hi : i < b.length) (h4 : i ≠ 4) (h5 : i ≠ 5) (hx : b.getD i 0 = x) (hm : Im.IsBit m) (hxy : y = x + m ∨ x = y + m)
    (h0 : csum (cov src dst b b.length) = 0) (hs : num2 (b.set i y) 6 ≠ 0) : puE src dst (b.set i y) = 73 := by
  have hg : ∀ j, j ≠ i → (b.set i y).getD j 0 = b.getD j 0 := fun j hj => by
    rw [List.getD_eq_getElem?_getD, List.getD_eq_getElem?_getD, List.getElem?_set_ne (Ne.symm hj)]
  have hn' : num2 (b.set i y) 4 = b.length := by
    rw [← hn]; unfold num2; rw [hg 4 (Ne.symm h4), hg 5 (Ne.symm h5)]
  have hc : cov src dst (b.set i y) b.length = (cov src dst b b.length).set (12 + i) y := by
    rw [cov_pseudo, cov_pseudo, List.take_of_length_le (by rw [List.length_set]; exact Nat.le_refl _), List.take_of_length_le (Nat.le_refl _), List.set_append_right _ _ (by rw [pseudo_len]; omega), pseudo_len, Nat.add_sub_cancel_left]
  have hgd : (cov src dst b b.length).getD (12 + i) 0 = x := by
    rw [← hx, cov_pseudo, List.take_of_length_le (Nat.le_refl _), List.getD_eq_getElem?_getD, List.getD_eq_getElem?_getD, List.getElem?_append_right (by rw [pseudo_len]; omega), pseudo_len, Nat.add_sub_cancel_left]
  have := Im.csum_flip (L := cov src dst b b.length) (i := 12 + i) (y := y) (by rw [cov_len]; omega) hgd hm hxy h0
  unfold puE
  rw [List.length_set, hn', if_neg (by omega), if_neg (by omega), if_neg (by omega), hc, if_pos ⟨hs, this⟩]

/-- The mix of a key: as one goes, and as one sum. -/
def mix (h : Nat) : List Nat → Nat
  | [] => h
  | x :: L => mix ((h * 251 + x + 1) % 65521) L
/-- From the last byte: the sum so far and the power so far. -/
def pows : List Nat → Nat × Nat
  | [] => (0, 1)
  | x :: L => (((pows L).1 + (x + 1) * (pows L).2) % 65521, (pows L).2 * 251 % 65521)

theorem mix_pows (L : List Nat) : ∀ h, mix h L % 65521 = (h * (pows L).2 + (pows L).1) % 65521 := by
  induction L with
  | nil => intro h; simp [mix, pows]
  | cons x L ih =>
    intro h
    unfold mix pows
    rw [ih]
    simp only
    generalize (pows L).2 = p
    generalize (pows L).1 = s
    rw [Nat.add_mod, Nat.mul_mod, Nat.mod_mod, ← Nat.mul_mod, ← Nat.add_mod]
    conv => rhs; rw [Nat.add_mod, Nat.mul_mod, Nat.mod_mod, Nat.mod_mod, ← Nat.mul_mod, ← Nat.add_mod]
    congr 1
    rw [Nat.add_mul, Nat.add_mul, Nat.add_mul, Nat.mul_assoc, Nat.mul_comm 251 p]
    omega

/-- A flow's port. -/
def port (k : List Nat) : Nat := 49152 + mix 1 k % 65521 % 16384

theorem port_ref (k : List Nat) : port k = 49152 + ((pows k).1 + (pows k).2) % 65521 % 16384 := by
  unfold port
  rw [mix_pows, Nat.one_mul, Nat.add_comm (pows k).2]
end Go.Proofs.Ytcelcnafcfefhaa.N.Tn
