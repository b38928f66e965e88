/-
  The law's sound.
-/
import Derived.Test.YtahoileampdnkaaMJA
import Derived.Test.YtahoileampdnkaaMJB
import Derived.Test.YtahoileampdnkaaMJC
import Derived.Test.YtahoileampdnkaaMJD
import Derived.Test.YtahoileampdnkaaMJE
import Derived.Test.YtahoileampdnkaaMJF
namespace Go.Proofs.Ytahoileampdnkaa
open Go.ChangeShapes Go.WideShapes Go.ChangeAt Go.RowKit Ru N Tri
set_option maxHeartbeats 4000000
set_option maxRecDepth 100000

theorem sound_any (q : Sp) (w : World) (hq : q.Ok w) : Calls Try.prog 11 #[.agg q.cells] w fun e w' => e = .returned (.bool (decide (newE q.x q.y q.s q.lo q.hi q.L = 0))) ∧ Below w.heap.size w w' := by
  obtain ⟨x, y, s, lo, hi, kv, L⟩ := q
  unfold Sp.cells
  simp only
  by_cases hbad : y < 0 ∨ 32 < y ∨ s < y ∨ 32 < s ∨ hi < lo ∨ 1024 < L.length
  · have h := newE_ne (x := x) hbad
    rw [show decide (newE x y s lo hi L = 0) = false by simp [h]]
    exact sound_out x lo hi y s kv L w hq hbad
  · obtain ⟨yn, rfl⟩ : ∃ yn : Nat, y = (yn : Int) := ⟨y.toNat, by omega⟩
    obtain ⟨sn, rfl⟩ : ∃ sn : Nat, s = (sn : Int) := ⟨s.toNat, by omega⟩
    have hy32 : yn ≤ 32 := by omega
    have hs32 : sn ≤ 32 := by omega
    have hys : yn ≤ sn := by omega
    have hlh : lo ≤ hi := by omega
    have hn0 : L.length ≤ 1024 := by omega
    have hck := ck_nat (x := x) (lo := lo) (hi := hi) hy32 hs32 hys hlh
    have hne : newE x (yn : Int) (sn : Int) lo hi L = if ck x (yn : Int) (sn : Int) lo hi ≠ 0 then ck x (yn : Int) (sn : Int) lo hi else keE x (yn : Int) sn [] L := by
      unfold newE; rw [if_neg (by omega), Int.toNat_natCast]
    have hf : ¬ ck x (yn : Int) (sn : Int) lo hi = 0 → decide (newE x (yn : Int) (sn : Int) lo hi L = 0) = false := fun h => by
      rw [decide_eq_false_iff_not, hne, if_pos h]; exact h
    clear hbad
    by_cases b0 : x % 2 ^ (32 - yn) = 0
    · by_cases b1 : lo % 2 ^ (32 - sn) = 0
      · by_cases b2 : hi % 2 ^ (32 - sn) = 0
        · by_cases b3 : lo < x
          · rw [hf fun h => by have := hck.1 h; omega]
            exact sound_b3 x lo hi yn sn kv L w hq hy32 hs32 hys hlh hn0 b0 b1 b2 b3
          · by_cases b4 : x + 2 ^ (32 - yn) ≤ hi
            · rw [hf fun h => absurd (hck.1 h).2.2.2.2 (Nat.not_lt.2 b4)]
              exact sound_b4 x lo hi yn sn kv L w hq hy32 hs32 hys hlh hn0 b0 b1 b2 b3 b4
            · rw [hne, if_neg (by rw [hck.2 ⟨b0, b1, b2, Nat.not_lt.1 b3, Nat.not_le.1 b4⟩]; simp)]
              exact sound_good x lo hi yn sn kv L w hq hy32 hs32 hys hlh hn0 b0 b1 b2 b3 b4
        · rw [hf fun h => b2 (hck.1 h).2.2.1]
          exact sound_b2 x lo hi yn sn kv L w hq hy32 hs32 hys hlh hn0 b0 b1 b2
      · rw [hf fun h => b1 (hck.1 h).2.1]
        exact sound_b1 x lo hi yn sn kv L w hq hy32 hs32 hys hlh hn0 b0 b1
    · rw [hf fun h => b0 (hck.1 h).1]
      exact sound_b0 x lo hi yn sn kv L w hq hy32 hs32 hys hlh hn0 b0
end Go.Proofs.Ytahoileampdnkaa
