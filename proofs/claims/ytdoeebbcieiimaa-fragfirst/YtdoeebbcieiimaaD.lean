import Derived.Test.YtdoeebbcieiimaaC
namespace Go.Proofs.Ytdoeebbcieiimaa
open Go.ChangeShapes Go.WideShapes Go.ChangeAt Go.RowKit
set_option maxHeartbeats 400000
set_option maxRecDepth 100000

theorem sees_one {w : World} {n : Nat} (hn : w.heap.size = n) (x : Nat) (hx : x < 256) (t : TypeId) : SeesB (w.alloc (.cells #[.int .u8 (x : Int)] t)) (.slice (some ⟨n, 0, none⟩) 1 1) [x] := by
  subst hn
  refine ⟨some ⟨w.heap.size, 0, none⟩, 1, rfl, ⟨by simp, fun h => by cases h⟩, by unfold maxLen; omega, fun j hj => ⟨w.heap.size, 0, rfl, by simp, ?_, ?_⟩⟩
  · match j, hj with
    | 0, _ => simp
  · match j, hj with
    | 0, _ => exact hx

theorem sees_two {w : World} {n : Nat} (hn : w.heap.size = n) (x y : Nat) (hx : x < 256) (hy : y < 256) (t : TypeId) : SeesB (w.alloc (.cells #[.int .u8 (x : Int), .int .u8 (y : Int)] t)) (.slice (some ⟨n, 0, none⟩) 2 2) [x, y] := by
  subst hn
  refine ⟨some ⟨w.heap.size, 0, none⟩, 2, rfl, ⟨by simp, fun h => by cases h⟩, by unfold maxLen; omega, fun j hj => ⟨w.heap.size, 0, rfl, by simp, ?_, ?_⟩⟩
  · match j, hj with
    | 0, _ => simp
    | 1, _ => simp
  · match j, hj with
    | 0, _ => exact hx
    | 1, _ => exact hy

theorem OwnB.alloc {w : World} {base : Nat} {v : Value} {L : List Nat} (h : OwnB w base v L) (o : Obj) : OwnB (w.alloc o) base v L :=
  h.below ((Below.refl _ _).alloc (Nat.le_refl _) _)

theorem OwnB.mono {w : World} {b b' : Nat} {v : Value} {L : List Nat} (h : OwnB w b v L) (hb : b' ≤ b) : OwnB w b' v L := by
  refine ⟨h.1, ?_⟩
  rcases h.2 with h | ⟨g, cap, cur, h1, h2, h3⟩
  · exact .inl h
  · exact .inr ⟨g, cap, cur, h1, by omega, h3⟩

theorem put2_any (v : Value) (i : Int) (n base : Nat) (L : List Nat) (w : World) (hO : OwnB w base v L) (hi : i = (n : Int)) (hn : n < 65536) (hbase : base ≤ w.heap.size) (hl : L.length ≤ 1000000) :
    Calls Try.prog 96 #[v, .int .i64 i] w fun e w' => ∃ v', e = .returned v' ∧ OwnB w' base v' (L ++ [n / 256, n % 256]) ∧ Below base w w' := by
  subst hi
  have HO := hid hO
  clear hO
  obtain ⟨a, ha⟩ : ∃ a, a = n / 256 := ⟨_, rfl⟩
  obtain ⟨b, hb⟩ : ∃ b, b = n % 256 := ⟨_, rfl⟩
  have ea : (n : Int) / 256 = (a : Int) := by omega
  have eb : (n : Int) % 256 = (b : Int) := by omega
  have ha1 : a < 256 := by omega
  have hb1 : b < 256 := by omega
  rw [← ha, ← hb]
  clear ha hb
  go_enter Try.func96, Try.ntmps96
  go_wp2_with (at_builtin; refine wpList_append_bytes rfl _ _ rfl base _ _ rfl (HO.out.alloc _) _ [a, b] rfl (sees_two rfl a b ha1 hb1 _) ?c1 ?c2 ?_)
  case c1 => simp only [List.length_cons, List.length_nil]; omega
  case c2 => simp; omega
  · intro v' w2 ho hb2
    have HO2 := hid ho
    have hb3 := ((Below.refl base w).alloc hbase _).trans hb2
    clear ho hb2
    go_wp2_with fail
    go_ret
    exact ⟨v', rfl, HO2.out, hb3⟩
end Go.Proofs.Ytdoeebbcieiimaa
