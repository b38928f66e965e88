/-
  A bit of an address turned over; frames; what is sealed and opened.
-/
import Derived.Test.YtcelcnafcfefhaaTM
namespace Go.Proofs.Ytcelcnafcfefhaa.N.Tn
open M

theorem xor_fin : ∀ (x : Fin 256) (k : Fin 8), (x.val ^^^ 2 ^ k.val = x.val + 2 ^ k.val ∨ x.val = (x.val ^^^ 2 ^ k.val) + 2 ^ k.val) ∧ x.val ^^^ 2 ^ k.val < 256 := by decide +kernel

theorem isBit_pow {q : Nat} (hq : q < 8) : Im.IsBit (2 ^ q) := by
  unfold Im.IsBit
  match q, hq with
  | 0, _ => decide
  | 1, _ => decide
  | 2, _ => decide
  | 3, _ => decide
  | 4, _ => decide
  | 5, _ => decide
  | 6, _ => decide
  | 7, _ => decide

theorem byte_xor (a b j : Nat) : (a ^^^ b) / 2 ^ j % 256 = (a / 2 ^ j % 256) ^^^ (b / 2 ^ j % 256) := by
  have h1 : (a ^^^ b) / 2 ^ j = (a / 2 ^ j) ^^^ (b / 2 ^ j) := by
    rw [← Nat.shiftRight_eq_div_pow, ← Nat.shiftRight_eq_div_pow, ← Nat.shiftRight_eq_div_pow, Nat.shiftRight_xor_distrib]
  rw [h1]
  exact Nat.xor_mod_two_pow (n := 8)

theorem be4_eq (v : Nat) : be4 v = [v / 2 ^ 24 % 256, v / 2 ^ 16 % 256, v / 2 ^ 8 % 256, v / 2 ^ 0 % 256] := by simp [be4]

/-- Which bytes a bit lies in. -/
theorem bit_bytes (k j : Nat) (hk : k < 32) (hj : j = 0 ∨ j = 8 ∨ j = 16 ∨ j = 24) : 2 ^ k / 2 ^ j % 256 = if k / 8 * 8 = j then 2 ^ (k % 8) else 0 := by
  have : ∀ k : Fin 32, ∀ j : Fin 4, 2 ^ k.val / 2 ^ (8 * j.val) % 256 = if k.val / 8 * 8 = 8 * j.val then 2 ^ (k.val % 8) else 0 := by decide +kernel
  rcases hj with rfl | rfl | rfl | rfl
  · exact this ⟨k, hk⟩ 0
  · exact this ⟨k, hk⟩ 1
  · exact this ⟨k, hk⟩ 2
  · exact this ⟨k, hk⟩ 3

theorem be4_flip (a k : Nat) (hk : k < 32) : ∃ i x y, i < 4 ∧ (be4 a).getD i 0 = x ∧ be4 (a ^^^ 2 ^ k) = (be4 a).set i y ∧ (y = x + 2 ^ (k % 8) ∨ x = y + 2 ^ (k % 8)) := by
  have hq : k % 8 < 8 := by omega
  have key : ∀ j, (j = 0 ∨ j = 8 ∨ j = 16 ∨ j = 24) → (a ^^^ 2 ^ k) / 2 ^ j % 256 = if k / 8 * 8 = j then (a / 2 ^ j % 256) ^^^ 2 ^ (k % 8) else a / 2 ^ j % 256 := fun j hj => by
    rw [byte_xor, bit_bytes k j hk hj]
    split
    · rfl
    · exact Nat.xor_zero _
  have hx : ∀ j, (a / 2 ^ j % 256) ^^^ 2 ^ (k % 8) = a / 2 ^ j % 256 + 2 ^ (k % 8) ∨ a / 2 ^ j % 256 = ((a / 2 ^ j % 256) ^^^ 2 ^ (k % 8)) + 2 ^ (k % 8) := fun j =>
    (xor_fin ⟨a / 2 ^ j % 256, Nat.mod_lt _ (by omega)⟩ ⟨k % 8, hq⟩).1
  rw [be4_eq, be4_eq, key 0 (.inl rfl), key 8 (.inr (.inl rfl)), key 16 (.inr (.inr (.inl rfl))), key 24 (.inr (.inr (.inr rfl)))]
  have h4 : k / 8 * 8 = 0 ∨ k / 8 * 8 = 8 ∨ k / 8 * 8 = 16 ∨ k / 8 * 8 = 24 := by omega
  rcases h4 with h | h | h | h
  · exact ⟨3, _, (a / 2 ^ 0 % 256) ^^^ 2 ^ (k % 8), by omega, rfl, by rw [h]; rfl, hx 0⟩
  · exact ⟨2, _, (a / 2 ^ 8 % 256) ^^^ 2 ^ (k % 8), by omega, rfl, by rw [h]; rfl, hx 8⟩
  · exact ⟨1, _, (a / 2 ^ 16 % 256) ^^^ 2 ^ (k % 8), by omega, rfl, by rw [h]; rfl, hx 16⟩
  · exact ⟨0, _, (a / 2 ^ 24 % 256) ^^^ 2 ^ (k % 8), by omega, rfl, by rw [h]; rfl, hx 24⟩

theorem getD_append_left {A B : List Nat} {i : Nat} (h : i < A.length) : (A ++ B).getD i 0 = A.getD i 0 := by
  rw [List.getD_eq_getElem?_getD, List.getD_eq_getElem?_getD, List.getElem?_append_left h]
theorem getD_append_right {A B : List Nat} {i : Nat} : (A ++ B).getD (A.length + i) 0 = B.getD i 0 := by
  rw [List.getD_eq_getElem?_getD, List.getD_eq_getElem?_getD, List.getElem?_append_right (by omega), Nat.add_sub_cancel_left]

/-- A bit of an address that is turned over is told. -/
theorem flip_src (src dst k : Nat) (b : List Nat) (len : Nat) (hk : k < 32) (h0 : csum (cov src dst b len) = 0) : csum (cov (src ^^^ 2 ^ k) dst b len) ≠ 0 := by
  obtain ⟨i, x, y, hi, hx, he, hxy⟩ := be4_flip src k hk
  have hs : ∀ s, cov s dst b len = be4 s ++ (be4 dst ++ [0, 17] ++ be2 len ++ b.take len) := fun s => by simp [cov]
  have hc : cov (src ^^^ 2 ^ k) dst b len = (cov src dst b len).set i y := by
    rw [hs, hs, he, List.set_append_left _ _ (by simpa [be4] using hi)]
  rw [hc]
  refine Im.csum_flip (x := x) (m := 2 ^ (k % 8)) ?_ ?_ (isBit_pow (by omega)) hxy h0
  · rw [cov_len]; omega
  · rw [hs, getD_append_left (by simpa [be4] using hi)]; exact hx

theorem flip_dst (src dst k : Nat) (b : List Nat) (len : Nat) (hk : k < 32) (h0 : csum (cov src dst b len) = 0) : csum (cov src (dst ^^^ 2 ^ k) b len) ≠ 0 := by
  obtain ⟨i, x, y, hi, hx, he, hxy⟩ := be4_flip dst k hk
  have hs : ∀ d, cov src d b len = be4 src ++ (be4 d ++ ([0, 17] ++ be2 len ++ b.take len)) := fun d => by simp [cov]
  have hc : cov src (dst ^^^ 2 ^ k) b len = (cov src dst b len).set (4 + i) y := by
    rw [hs, hs, he, List.set_append_right _ _ (show (be4 src).length ≤ 4 + i by show 4 ≤ 4 + i; omega), show 4 + i - (be4 src).length = i by show 4 + i - 4 = i; omega, List.set_append_left _ _ (by simpa [be4] using hi)]
  rw [hc]
  refine Im.csum_flip (x := x) (m := 2 ^ (k % 8)) ?_ ?_ (isBit_pow (by omega)) hxy h0
  · rw [cov_len]; omega
  · rw [hs, show 4 + i = (be4 src).length + i from rfl, getD_append_right, getD_append_left (by simpa [be4] using hi)]; exact hx

theorem puE_bad (s d u : Nat) (x : Dg) (hx : x.Ok) (hl : x.B.length ≤ 65527) (hu : u ≠ 0) (hc : csum (cov s d (udp x (8 + x.B.length) u) (8 + x.B.length)) ≠ 0) : puE s d (udp x (8 + x.B.length) u) = 73 := by
  obtain ⟨_, _, h3, h4⟩ := num_udp hx (8 + x.B.length) u (by omega)
  unfold puE
  rw [udp_len, h3, h4, if_neg (by omega), if_neg (by omega), if_neg (by omega), if_pos ⟨hu, hc⟩]

theorem built_sum (src dst : Nat) (x : Dg) : builtU src dst x true = udp x (8 + x.B.length) (usum src dst x) := by unfold builtU; rw [if_pos rfl]

/-- Refused at another address. -/
theorem puE_src (src dst k : Nat) (x : Dg) (hx : x.Ok) (hl : x.B.length ≤ 65527) (hk : k < 32) : puE (src ^^^ 2 ^ k) dst (builtU src dst x true) = 73 ∧ puE src (dst ^^^ 2 ^ k) (builtU src dst x true) = 73 := by
  have hc := csum_built src dst x
  have hu := (usum_lt src dst x).2
  rw [built_sum] at hc ⊢
  generalize usum src dst x = u at *
  exact ⟨puE_bad _ _ u x hx hl hu (flip_src src dst k _ _ hk hc), puE_bad _ _ u x hx hl hu (flip_dst src dst k _ _ hk hc)⟩

/-- A frame. -/
structure Fr where
  dst : List Nat
  src : List Nat
  ty : Nat
  B : List Nat

structure Fr.Ok (f : Fr) : Prop where
  dst : f.dst.length = 6
  src : f.src.length = 6
  ty : f.ty < 65536

def tyE (n : Nat) : Int := if n < 1536 then 70 else if n = 33024 ∨ n = 34984 then 71 else 0
def frL (f : Fr) : List Nat := f.dst ++ f.src ++ be2 f.ty ++ f.B
def bfE (f : Fr) : Int := if 65485 < f.B.length then 2 else tyE f.ty
def bfL (f : Fr) : List Nat := if bfE f = 0 then frL f else []
def pfE (b : List Nat) : Int := if 65499 < b.length then 2 else if b.length < 14 then 70 else tyE (num2 b 12)
def noneF : Fr := ⟨[0, 0, 0, 0, 0, 0], [0, 0, 0, 0, 0, 0], 0, []⟩
def pfF (b : List Nat) : Fr := if pfE b = 0 then ⟨b.take 6, (b.drop 6).take 6, num2 b 12, b.drop 14⟩ else noneF

theorem frL_len {f : Fr} (h : f.Ok) : (frL f).length = 14 + f.B.length := by
  unfold frL
  simp [h.dst, h.src, be2]
  omega

theorem num_frL {f : Fr} (h : f.Ok) : num2 (frL f) 12 = f.ty := by
  have e : frL f = (f.dst ++ f.src) ++ (f.ty / 256 % 256 :: f.ty % 256 :: f.B) := by simp [frL, be2]
  have hl : (f.dst ++ f.src).length = 12 := by simp [h.dst, h.src]
  have h1 : (frL f).getD 12 0 = f.ty / 256 % 256 := by
    rw [e]
    have := getD_append_right (A := f.dst ++ f.src) (B := f.ty / 256 % 256 :: f.ty % 256 :: f.B) (i := 0)
    rw [hl] at this
    exact this
  have h2 : (frL f).getD 13 0 = f.ty % 256 := by
    rw [e]
    have := getD_append_right (A := f.dst ++ f.src) (B := f.ty / 256 % 256 :: f.ty % 256 :: f.B) (i := 1)
    rw [hl] at this
    exact this
  unfold num2
  rw [h1, h2]
  have := h.ty
  omega

/-- A frame that is built is read back. -/
theorem pf_bf {f : Fr} (h : f.Ok) (he : bfE f = 0) : pfE (frL f) = 0 ∧ pfF (frL f) = f := by
  have hl : ¬ 65485 < f.B.length := fun hc => by unfold bfE at he; rw [if_pos hc] at he; cases he
  have ht : tyE f.ty = 0 := by unfold bfE at he; rwa [if_neg hl] at he
  have h1 : pfE (frL f) = 0 := by
    unfold pfE
    rw [frL_len h, num_frL h, if_neg (by omega), if_neg (by omega), ht]
  refine ⟨h1, ?_⟩
  unfold pfF
  rw [if_pos h1, num_frL h]
  have e1 : (frL f).take 6 = f.dst := by
    unfold frL
    rw [List.append_assoc, List.append_assoc, List.take_append_of_le_length (by rw [h.dst]; omega), List.take_of_length_le (by rw [h.dst]; omega)]
  have e2 : ((frL f).drop 6).take 6 = f.src := by
    unfold frL
    rw [List.append_assoc, List.append_assoc, ← h.dst, List.drop_left, h.dst, List.take_append_of_le_length (by rw [h.src]; omega), List.take_of_length_le (by rw [h.src]; omega)]
  have e3 : (frL f).drop 14 = f.B := by
    unfold frL
    rw [show 14 = (f.dst ++ f.src ++ be2 f.ty).length by simp [h.dst, h.src, be2], List.drop_left]
  rw [e1, e2, e3]
end Go.Proofs.Ytcelcnafcfefhaa.N.Tn
