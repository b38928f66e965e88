/-
  A subnet that is full; one pod that comes and goes: what needs no memory.
-/
import Derived.Test.YtjilahbkolcekabFM
import Derived.Test.YtjilahbkolcekabEF
namespace Go.Proofs.Ytjilahbkolcekab
set_option maxHeartbeats 1000000
set_option maxRecDepth 100000

theorem add_full {s : Ist} (hok : s.Ok) {n : ByteArray} (hm : nmB n = true) (hn : s.byN n = none) (hf : 1024 ≤ s.S.length ∨ s.z - 3 ≤ s.S.length) : s.addR n = (0, 4, s) := by
  unfold Ist.addR
  rw [if_neg (by rw [hm]; simp), if_neg (by rw [hn]; simp)]
  by_cases h : 1024 ≤ s.S.length
  · rw [if_pos h]
  · rw [if_neg h, (hok.fr_none (by omega)).2 (by omega)]
theorem add_room {s : Ist} (hok : s.Ok) {n : ByteArray} (hm : nmB n = true) (hn : s.byN n = none) (h1 : s.S.length < 1024) (h2 : s.S.length < s.z - 3) : ∃ r, s.fr = some r ∧ s.addR n = (s.b + r, 0, s.add n r) := by
  cases hf : s.fr with
  | none => have := (hok.fr_none h1).1 hf; omega
  | some r =>
    refine ⟨r, rfl, ?_⟩
    unfold Ist.addR
    rw [if_neg (by rw [hm]; simp), if_neg (by rw [hn]; simp), if_neg (by omega), hf]

def omN : ByteArray := ⟨#[111, 110, 101, 45, 109, 111, 114, 101]⟩
def tmN : ByteArray := ⟨#[116, 119, 111, 45, 109, 111, 114, 101]⟩
def xN : ByteArray := ⟨#[120]⟩
theorem omN_name : nmB omN = true := by decide +kernel
theorem tmN_name : nmB tmN = true := by decide +kernel
theorem xN_name : nmB xN = true := by decide +kernel

theorem fil_mem {b z i g : Nat} (h : g < i) : (⟨nmN g, b + 2 + g⟩ : Pod) ∈ (fil b z i).S := List.mem_map.2 ⟨g, List.mem_range.2 h, rfl⟩
theorem fil_del {b z i g : Nat} (hok : (fil b z i).Ok) (h : g < i) : (fil b z i).delR (nmN g) = (b + 2 + g, 0, (fil b z i).del (nmN g)) := by
  unfold Ist.delR
  have := hok.byN_mem (fil_mem (b := b) (z := z) h)
  simp only at this
  rw [this]

/-- One goes, one comes, there is no room for a second. -/
theorem full_turn {b z i g : Nat} (hok : (fil b z i).Ok) (hi : i = min (z - 3) 1024) (h : g < i) :
    ∃ r, ((fil b z i).del (nmN g)).addR omN = (b + r, 0, ((fil b z i).del (nmN g)).add omN r) ∧ ((((fil b z i).del (nmN g)).add omN r).addR tmN) = (0, 4, (((fil b z i).del (nmN g)).add omN r)) ∧ (z - 3 = i → r = g + 2) := by
  have hgl : ((fil b z i).del (nmN g)).S.length = i - 1 := by
    have := filter_len (n := nmN g) hok.nn (fil_mem (b := b) (z := z) h) rfl
    rw [fil_len] at this
    exact this
  have hz : ((fil b z i).del (nmN g)).z = z := rfl
  have hb1 : ((fil b z i).del (nmN g)).byN omN = none := by rw [byN_del, if_neg (nmN_ne (by decide)).symm, fil_byN' (by decide)]
  have hb2 : ((fil b z i).del (nmN g)).byN tmN = none := by rw [byN_del, if_neg (nmN_ne (by decide)).symm, fil_byN' (by decide)]
  have h2 := Nat.min_le_left (z - 3) 1024
  have h3 := Nat.min_le_right (z - 3) 1024
  obtain ⟨r, hfr, hA⟩ := add_room (hok.del (nmN g)) omN_name hb1 (by rw [hgl]; omega) (by rw [hgl, hz]; omega)
  have hok3 := (hok.del (nmN g)).add hb1 (by rw [hgl]; omega) (by decide) hfr
  refine ⟨r, hA, ?_, fun hzi => ?_⟩
  · have hl3 : ((((fil b z i).del (nmN g)).add omN r)).S.length = i := by
      show (((fil b z i).del (nmN g)).S ++ [_]).length = i
      rw [List.length_append, hgl]; simp; omega
    refine add_full hok3 tmN_name ?_ ?_
    · rw [byN_add hb1, if_neg (by decide), hb2]
    · rw [hl3]
      show 1024 ≤ i ∨ z - 3 ≤ i
      rw [hi]
      omega
  · have h4 := srch_in (hok.del (nmN g)).z4 (hok.del (nmN g)).l1 hfr
    rw [hz] at h4
    apply Classical.byContradiction
    intro hne
    have hm : (⟨nmN (r - 2), b + 2 + (r - 2)⟩ : Pod) ∈ ((fil b z i).del (nmN g)).S := by
      refine List.mem_filter.2 ⟨fil_mem (by omega), ?_⟩
      have : nmN (r - 2) ≠ nmN g := fun e => hne (by have := nmN_inj (by omega) (by omega) e; omega)
      simpa using this
    have h5 := h4.1
    unfold Ist.tk at h5
    rw [decide_eq_false_iff_not] at h5
    apply h5
    refine List.mem_map.2 ⟨_, hm, ?_⟩
    show b + 2 + (r - 2) = b + r
    omega

theorem full_none {b z i : Nat} (hok : (fil b z i).Ok) (hi : i = min (z - 3) 1024) : (fil b z i).addR omN = (0, 4, fil b z i) := by
  refine add_full hok omN_name (fil_byN' (by decide)) ?_
  rw [fil_len]
  show 1024 ≤ i ∨ z - 3 ≤ i
  omega

/-- k pods, and the last one given at p. -/
def rnd (b z k p : Nat) : Ist := ⟨b, z, p, (fil b z k).S⟩
def nxt (z k p : Nat) : Nat := if p + 2 = z then k + 2 else p + 1

theorem rnd_tk {b z k p q : Nat} : (rnd b z k p).tk q = decide (2 ≤ q ∧ q < k + 2) := by
  rw [← fil_tk (b := b) (z := z)]; rfl

theorem srch_run {z k : Nat} {T : Nat → Bool} (hT : ∀ q, T q = decide (2 ≤ q ∧ q < k + 2)) (hz : k + 4 ≤ z) : ∀ (d j n : Nat), 1 ≤ j → j + d = k + 1 → d < n → srch z T n j = some (k + 2)
  | d, j, 0, _, _, h => by omega
  | 0, j, n + 1, h1, h2, _ => by
    have e : nx z j = k + 2 := by unfold nx; rw [if_neg (by omega)]; omega
    rw [srch, e, hT, if_neg (by simp)]
  | d + 1, j, n + 1, h1, h2, h3 => by
    have e : nx z j = j + 1 := by unfold nx; rw [if_neg (by omega)]
    rw [srch, e, hT, if_pos (by simp; omega)]
    exact srch_run hT hz d (j + 1) n (by omega) (by omega) (by omega)

theorem rnd_fr {b z k p : Nat} (hk : k < 1024) (hz : k + 4 ≤ z) (h1 : k + 1 ≤ p) (h2 : p + 2 ≤ z) : (rnd b z k p).fr = some (nxt z k p) := by
  unfold Ist.fr nxt
  have ez : (rnd b z k p).z = z := rfl
  have el : (rnd b z k p).l = p := rfl
  rw [ez, el]
  by_cases e : p + 2 = z
  · rw [if_pos e]
    have e1 : nx z p = 2 := by unfold nx; rw [if_pos (by omega)]
    rw [show 1025 = 1024 + 1 from rfl, srch, e1, rnd_tk]
    by_cases h0 : k = 0
    · subst h0; simp
    · rw [if_pos (by simp; omega)]
      exact srch_run (fun q => rnd_tk) hz (k - 1) 2 1024 (by omega) (by omega) (by omega)
  · rw [if_neg e]
    have e1 : nx z p = p + 1 := by unfold nx; rw [if_neg (by omega)]
    rw [show 1025 = 1024 + 1 from rfl, srch, e1, rnd_tk, if_neg (by simp; omega)]

theorem rnd_byN {b z k p : Nat} : (rnd b z k p).byN xN = none := fil_byN' (b := b) (z := z) (i := k) (by decide)

theorem rnd_add {b z k p : Nat} (hk : k < 1024) (hz : k + 4 ≤ z) (h1 : k + 1 ≤ p) (h2 : p + 2 ≤ z) : (rnd b z k p).addR xN = (b + nxt z k p, 0, (rnd b z k p).add xN (nxt z k p)) := by
  unfold Ist.addR
  rw [if_neg (by rw [xN_name]; simp), if_neg (by rw [rnd_byN]; simp), if_neg (by show ¬ 1024 ≤ (fil b z k).S.length; rw [fil_len]; omega), rnd_fr hk hz h1 h2]
  rfl
theorem rnd_del {b z k p r : Nat} : ((rnd b z k p).add xN r).delR xN = (b + r, 0, rnd b z k r) := by
  unfold Ist.delR
  rw [byN_add rnd_byN, if_pos rfl]
  show (b + r, (0 : Int), ((rnd b z k p).add xN r).del xN) = _
  congr 2
  unfold Ist.del Ist.add rnd
  simp only [Ist.mk.injEq, true_and]
  rw [List.filter_append]
  have h1 : ((fil b z k).S.filter fun q => !decide (q.nm = xN)) = (fil b z k).S := List.filter_eq_self.2 fun q hq => by
    have := byN_none (s := fil b z k) (n := xN) (fil_byN' (by decide)) q hq
    simpa using this
  rw [h1]
  simp
theorem nxt_step {z k i : Nat} (hz : k + 4 ≤ z) : nxt z k (2 + k + i % (z - 3 - k)) = 2 + k + (i + 1) % (z - 3 - k) := by
  obtain ⟨M, hM⟩ : ∃ M, M = z - 3 - k := ⟨_, rfl⟩
  rw [← hM]
  have hlt : i % M < M := Nat.mod_lt _ (by omega)
  have hd := Nat.div_add_mod i M
  have hs : (i + 1) % M = (i % M + 1) % M := by
    conv => lhs; rw [← hd, Nat.add_assoc, Nat.mul_add_mod]
  unfold nxt
  by_cases e : i % M + 1 = M
  · rw [if_pos (by omega), hs, e, Nat.mod_self]
    omega
  · have h6 : (i % M + 1) % M = i % M + 1 := Nat.mod_eq_of_lt (by omega)
    rw [if_neg (by omega), hs, h6]
    omega
end Go.Proofs.Ytjilahbkolcekab
