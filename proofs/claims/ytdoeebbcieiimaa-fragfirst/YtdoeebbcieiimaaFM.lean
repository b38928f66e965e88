/-
  A packet cut into pieces: the list of them.
-/
import Derived.Test.YtdoeebbcieiimaaH
import Derived.Test.YtdoeebbcieiimaaMathF
namespace Go.Proofs.Ytdoeebbcieiimaa
open Go.ChangeShapes Go.WideShapes Go.ChangeAt Go.RowKit
set_option maxHeartbeats 400000

abbrev Pk := Hd × List Nat

def rmOf (h : Hd) (mtu : Nat) : Nat := (mtu - (20 + h.opts.length)) / 8 * 8
def nextH (h : Hd) (k : Nat) (later : List Nat) : Hd := { h with off := h.off + (k : Int), opts := later }
def frontH (h : Hd) : Hd := { h with mf := true }

def cutL (later : List Nat) (mtu : Nat) : Nat → Hd → List Nat → List Pk
  | 0, h, B => [(h, B)]
  | f + 1, h, B => if 20 + h.opts.length + B.length ≤ mtu then [(h, B)] else (frontH h, B.take (rmOf h mtu)) :: cutL later mtu f (nextH h (rmOf h mtu) later) (B.drop (rmOf h mtu))

theorem cutL_fits {later : List Nat} {mtu f : Nat} {h : Hd} {B : List Nat} (hf : 20 + h.opts.length + B.length ≤ mtu) : cutL later mtu f h B = [(h, B)] := by
  cases f with
  | zero => rfl
  | succ f => rw [cutL, if_pos hf]

theorem rm_pos {h : Hd} {mtu : Nat} (ho : h.opts.length ≤ 40) (hm : 68 ≤ mtu) : 8 ≤ rmOf h mtu := by unfold rmOf; omega

theorem rm_le {h : Hd} {mtu nb : Nat} (hb : ¬ 20 + h.opts.length + nb ≤ mtu) : rmOf h mtu ≤ nb ∧ 20 + h.opts.length + rmOf h mtu ≤ max mtu (20 + h.opts.length) ∧ rmOf h mtu % 8 = 0 := by unfold rmOf; omega

theorem cutL_more {later : List Nat} {mtu f : Nat} {h : Hd} {B : List Nat} (hb : ¬ 20 + h.opts.length + B.length ≤ mtu) (hf : B.length ≤ f) (hm : 68 ≤ mtu) (ho : h.opts.length ≤ 40) :
    cutL later mtu f h B = (frontH h, B.take (rmOf h mtu)) :: cutL later mtu (f - 1) (nextH h (rmOf h mtu) later) (B.drop (rmOf h mtu)) := by
  cases f with
  | zero => omega
  | succ f => rw [cutL, if_neg hb, Nat.add_sub_cancel]

def splitL (h : Hd) (B : List Nat) (mtu : Int) : List Pk × Int :=
  if mtu < 68 then ([], 50) else if refE h B.length ≠ 0 then ([], refE h B.length) else
    if 20 + h.opts.length + B.length ≤ mtu.toNat then ([(h, B)], 0) else if h.df then ([], 51) else (cutL (M.copied h.opts).1 mtu.toNat B.length h B, 0)

theorem later_area {o : List Nat} (ho : M.area o = true) : M.area (M.copied o).1 = true ∧ (M.copied o).1.length ≤ 40 ∧ (M.copied o).2 = 0 := by
  obtain ⟨c, z, h1, h2, h3, h4, h5, h6, _⟩ := M.copied_once ho
  have e : M.copied o = (M.pad (M.cop o), 0) := by unfold M.copied; rw [if_pos ho]
  rw [e]
  exact ⟨h6, (area_len h6).1, rfl⟩

theorem later_bytes {o : List Nat} (ho : ∀ x ∈ o, x < 256) : ∀ x ∈ (M.copied o).1, x < 256 := by
  intro x hx
  unfold M.copied at hx
  split at hx
  · unfold M.pad at hx
    rcases List.mem_append.1 hx with h | h
    · exact ho x (M.cop_mem _ _ (Nat.le_refl _) x h)
    · have := List.eq_of_mem_replicate h; omega
  · cases hx

theorem front_ok {h : Hd} (hok : h.Ok) : (frontH h).Ok := ⟨hok.tos, hok.id, hok.off, hok.ttl, hok.proto, hok.src, hok.dst⟩
theorem next_ok {h : Hd} (hok : h.Ok) {k : Nat} {l : List Nat} (h0 : -9223372036854775808 ≤ h.off) (h1 : h.off + (k : Int) ≤ 9223372036854775807) : (nextH h k l).Ok := ⟨hok.tos, hok.id, ⟨by show _ ≤ h.off + (k : Int); omega, h1⟩, hok.ttl, hok.proto, hok.src, hok.dst⟩
end Go.Proofs.Ytdoeebbcieiimaa
