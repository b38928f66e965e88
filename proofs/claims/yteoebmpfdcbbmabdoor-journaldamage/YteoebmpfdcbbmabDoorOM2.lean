/-
  Frames in another order.
-/
import Derived.Test.YteoebmpfdcbbmabDoorGM
import Derived.Test.YteoebmpfdcbbmabDoorRC
namespace Jn
set_option maxRecDepth 100000

theorem bsteps_256 (q : Nat) : bsteps 8 (256 * q) = q := by
  rw [show 8 = 4 + 4 from rfl, bsteps_add, show 256 * q = 16 * (16 * q) by omega, bsteps_16, bsteps_16]
theorem step2 (s a b : Nat) : step (step s a) b = bsteps 16 (s ^^^ (a ^^^ 256 * b)) := by
  have e : step s a ^^^ b = bsteps 8 (s ^^^ (a ^^^ 256 * b)) := by
    rw [← Nat.xor_assoc, bsteps_xor, bsteps_256, step_bits]
  rw [← step_bits (step s a) b, e, ← bsteps_add]
theorem bsteps_inj {r t : Nat} (hr : r < 4294967296) (ht : t < 4294967296) (h : bsteps 16 r = bsteps 16 t) : r = t := by
  rw [show 16 = 4 + (4 + (4 + 4)) from rfl, bsteps_add, bsteps_add, bsteps_add, half_bits, half_bits, half_bits, half_bits, bsteps_add, bsteps_add, bsteps_add, half_bits, half_bits, half_bits, half_bits] at h
  exact half_inj hr ht (half_inj (half_lt hr) (half_lt ht) (half_inj (half_lt (half_lt hr)) (half_lt (half_lt ht)) (half_inj (half_lt (half_lt (half_lt hr))) (half_lt (half_lt (half_lt ht))) h)))
theorem step2_inj {s a b a' b' : Nat} (hs : s < 4294967296) (ha : a < 256) (hb : b < 256) (ha' : a' < 256) (hb' : b' < 256) (h : step (step s a) b = step (step s a') b') : a = a' ∧ b = b' := by
  rw [step2, step2] at h
  have l : ∀ x y : Nat, x < 256 → y < 256 → s ^^^ (x ^^^ 256 * y) < 4294967296 := fun x y hx hy =>
    Nat.xor_lt_two_pow (n := 32) hs (Nat.xor_lt_two_pow (n := 32) (by omega) (by omega))
  have e := xor_cancel_left (bsteps_inj (l a b ha hb) (l a' b' ha' hb') h)
  have e8 : (a ^^^ 256 * b) % 2 ^ 8 = (a' ^^^ 256 * b') % 2 ^ 8 := by rw [e]
  rw [Nat.xor_mod_two_pow, Nat.xor_mod_two_pow] at e8
  have z1 : 256 * b % 2 ^ 8 = 0 := by omega
  have z2 : 256 * b' % 2 ^ 8 = 0 := by omega
  rw [z1, z2, Nat.xor_zero, Nat.xor_zero, Nat.mod_eq_of_lt (by omega), Nat.mod_eq_of_lt (by omega)] at e8
  subst e8
  have := xor_cancel_left e
  exact ⟨rfl, by omega⟩
theorem sel_inj {g k k' n c : Nat} (hk : k < 65536) (hk' : k' < 65536) (h : sel g k n c = sel g k' n c) : k = k' := by
  unfold sel crc at h
  rw [reg_append, reg_append, reg_append, reg_append, reg_append, reg_append] at h
  have t0 := reg_lt (w4 g) (s := 4294967295) (by decide) (w4_lt g)
  generalize reg 4294967295 (w4 g) = t at h t0
  have l1 := reg_lt (w4 k) t0 (w4_lt k)
  have l1' := reg_lt (w4 k') t0 (w4_lt k')
  have l2 := reg_lt (w4 n) l1 (w4_lt n)
  have l2' := reg_lt (w4 n) l1' (w4_lt n)
  have l3 := reg_lt (w4 c) l2 (w4_lt c)
  have l3' := reg_lt (w4 c) l2' (w4_lt c)
  have e : reg (reg (reg t (w4 k)) (w4 n)) (w4 c) = reg (reg (reg t (w4 k')) (w4 n)) (w4 c) := by omega
  have e1 := reg_inj (w4 n) l1 l1' (w4_lt n) (reg_inj (w4 c) l2 l2' (w4_lt c) e)
  have hw : ∀ q, q < 65536 → w4 q = [0, 0, q / 256, q % 256] := fun q hq => by
    unfold w4
    rw [show q / 16777216 % 256 = 0 by omega, show q / 65536 % 256 = 0 by omega, show q / 256 % 256 = q / 256 by omega]
  rw [hw k hk, hw k' hk'] at e1
  have e2 : step (step (step (step t 0) 0) (k / 256)) (k % 256) = step (step (step (step t 0) 0) (k' / 256)) (k' % 256) := e1
  obtain ⟨q1, q2⟩ := step2_inj (step_lt (step_lt t0 (by decide)) (by decide)) (by omega) (by omega) (by omega) (by omega) e2
  omega
theorem rd_alien {g base fin k : Nat} {r rest : List Nat} {recs : List (List Nat)} {met : Bool} (hr : r.length ≤ 65536) (hk : k < 65536) (hl : recs.length < 65536) (hne : k ≠ recs.length) :
    rd g base (frame g k r ++ rest) recs fin met = ⟨1, 0, [], 0⟩ := by
  obtain ⟨n0, n4, n8, -⟩ := frame_nums (g := g) (k := k) (rest := rest) (show r.length < 4294967296 by omega)
  have hf : fits g recs.length (frame g k r ++ rest) = false := by
    unfold fits
    rw [n0, n4, n8]
    have : ¬ sel g k r.length (crc r) = sel g recs.length r.length (crc r) := fun e => hne (sel_inj hk hl e)
    simp [this]
  rw [rd, dif_neg (by rw [List.length_append, frame_len]; omega), if_pos hf]

def arA (rs : List (List Nat)) : List Nat := gener 1 [] ++ frames 1 0 rs
def plc (rs : List (List Nat)) (i : Nat) : Nat := 16 + baseL (rs.take i)
theorem arA_split (rs : List (List Nat)) (i : Nat) (hi : i ≤ rs.length) : arA rs = (gener 1 [] ++ frames 1 0 (rs.take i)) ++ frames 1 i (rs.drop i) := by
  unfold arA
  conv => lhs; rw [← List.take_append_drop i rs]
  rw [frames_append, List.length_take, Nat.min_eq_left hi, Nat.zero_add, List.append_assoc]
theorem arA_front (rs : List (List Nat)) (i : Nat) : (gener 1 [] ++ frames 1 0 (rs.take i)).length = plc rs i := by
  rw [List.length_append, gener_len, frames_len]; simp [plc, baseL]
theorem arA_take (rs : List (List Nat)) (i : Nat) (hi : i ≤ rs.length) : (arA rs).take (plc rs i) = gener 1 [] ++ frames 1 0 (rs.take i) := by
  rw [arA_split rs i hi]; exact List.take_left' (arA_front rs i)
theorem arA_drop (rs : List (List Nat)) (i : Nat) (hi : i ≤ rs.length) : (arA rs).drop (plc rs i) = frames 1 i (rs.drop i) := by
  rw [arA_split rs i hi]; exact List.drop_left' (arA_front rs i)
theorem arA_mid {rs : List (List Nat)} {j : Nat} {r : List Nat} (h : rs[j]? = some r) : ((arA rs).take (plc rs (j + 1))).drop (plc rs j) = frame 1 j r := by
  have hj := (List.getElem?_eq_some_iff.1 h).1
  rw [arA_take rs (j + 1) hj]
  have e : rs.take (j + 1) = rs.take j ++ [r] := by rw [List.take_add_one, h]; rfl
  rw [e, frames_append, List.length_take, Nat.min_eq_left (by omega), Nat.zero_add, ← List.append_assoc]
  rw [List.drop_left' (arA_front rs j)]
  simp [frames]
theorem frames_cons {rs : List (List Nat)} {i : Nat} {r : List Nat} (h : rs[i]? = some r) : frames 1 i (rs.drop i) = frame 1 i r ++ frames 1 (i + 1) (rs.drop (i + 1)) := by
  obtain ⟨hi, e⟩ := List.getElem?_eq_some_iff.1 h
  rw [List.drop_eq_getElem_cons hi, e, frames]
/-- Frames that are no longer in their order. -/
theorem bad_st {rs : List (List Nat)} {i k : Nat} {r X : List Nat} (hs : ∀ r ∈ rs, r.length ≤ 65536) (hi : i ≤ rs.length) (hr : r.length ≤ 65536) (hk : k < 65536) (hl : rs.length < 65536) (hne : k ≠ i) (hlen : plc rs i + (12 + r.length) + X.length ≤ 1048576) :
    opnE ((arA rs).take (plc rs i) ++ (frame 1 k r ++ X)) [] = true := by
  have h1 : rdA ((arA rs).take (plc rs i) ++ (frame 1 k r ++ X)) = ⟨1, 0, [], 0⟩ := by
    rw [arA_take rs i hi]
    have := rdA_gen (g := 1) (rs := []) (more := rs.take i) (tail := frame 1 k r ++ X) (by decide) (by simp) (fun r hr => hs r (List.mem_of_mem_take hr)) (by rw [List.length_append, frame_len]; unfold plc at hlen; simp [baseL] at *; omega)
    rw [List.length_nil] at this
    rw [this, List.nil_append, rd_alien hr hk (by rw [List.length_take]; omega) (by rw [List.length_take]; omega)]
  unfold opnE
  rw [h1]
  rfl
theorem arA_open {rs : List (List Nat)} (hs : ∀ r ∈ rs, r.length ≤ 65536) (hb : 16 + baseL rs ≤ 1048576) : opnE (arA rs) [] = false ∧ opnR (arA rs) [] = rs := by
  have h := rdA_whole (g := 1) (rs := []) (more := rs) (by decide) (by simp) hs (by simp [baseL] at *; omega)
  obtain ⟨q1, -, q3⟩ := opn_of (d := (arA rs, [])) (c := 0) (by decide) (cx := ⟨3, 1, [] ++ rs, 16 + baseL [] + baseL rs⟩) h rfl (by show 1 < _; decide) (.inl (by show (rdA []).st = 0; rw [rdA_short (by simp)]))
  exact ⟨q1, q3⟩
end Jn
