/-
  A trie that holds at most one prefix.
-/
import Derived.Test.YtmnafocmbcgdiaaQWD
namespace Go.Proofs.Ytmnafocmbcgdiaa.Pa
open Go.Proofs.Ytmnafocmbcgdiaa Go.ChangeShapes Go.WideShapes Go.ChangeAt Go.RowKit Go.Shelf Tri N
set_option maxHeartbeats 1000000

theorem TrieAt.other {w w' : World} {X Z : Nat → Prop} {tb : Nat} {t : Tr} (h : TrieAt w X tb t) (hZ : ∀ b, Z b → X b) (hn : ¬ Z tb) (hc : Chg Z w w') : TrieAt w' X tb t := by
  obtain ⟨h1, h2, ⟨m, h3, h4, h5⟩, h6⟩ := h
  exact ⟨h1, fun b hx => Nat.lt_of_lt_of_le (h2 b hx) hc.size, ⟨m, (hc.block tb (Array.getElem?_eq_some_iff.1 h3).1 hn).trans h3, h4, h5.chg (hc.mono hZ)⟩, h6⟩

theorem TrieAt.but {w w' : World} {X : Nat → Prop} {tb g : Nat} {t : Tr} {cs : Array Value} {T : TypeId} (h : TrieAt w X tb t) (hg : w.heap[g]? = some (.cells cs T)) (h1 : T ≠ 111) (h2 : T ≠ 46) (h3 : T ≠ 95) (hb : But g w w') : TrieAt w' X tb t := by
  obtain ⟨g1, g2, ⟨m, g3, g4, g5⟩, g6⟩ := h
  have hne : tb ≠ g := fun e => by
    subst e
    rw [hg] at g3
    injection g3 with g3
    injection g3 with _ g3
    exact h3 g3
  exact ⟨g1, fun b hx => Nat.lt_of_lt_of_le (g2 b hx) hb.size, ⟨m, (hb.block tb (Array.getElem?_eq_some_iff.1 g3).1 hne).trans g3, g4, g5.but hg h1 h2 hb⟩, g6⟩

def one (p : K) (v : Vt) : Tr := .node p (some v) .nil .nil
def AtMost (p : K) (t : Tr) : Prop := t = .nil ∨ ∃ v, t = one p v

theorem hang_one {p : K} {t : Tr} (h : AtMost p t) (v : Vt) : hang t p (some v) = one p v := by
  rcases h with rfl | ⟨u, rfl⟩
  · simp [hang, join, one]
  · simp [hang, join, one]

theorem find_one {p : K} {v : Vt} (_hp : p.Ok) : find (one p v) p.x = some (p, v) := by
  have hs : 0 < p.s := Nat.two_pow_pos _
  simp [find, one, hasK, hs]

theorem put_one {X : Nat → Prop} {tb : Nat} {t : Tr} (p : K) (v : Vt) (w : World) (hT : TrieAt w X tb t) (hp : p.Ok) (h1 : AtMost p t) :
    Calls Try.prog 21 #[.pointer (some ⟨tb, 0, none⟩), .agg #[.int .u32 (p.x : Int), .int .i64 (p.n : Int)], .agg #[.int .i64 v.n, .slice v.l v.len v.cap]] w fun e w' => e = .returned (.int .i64 0) ∧ TrieAt w' X tb (one p v) ∧ Chg (fun b => b = tb) w w' := by
  have h := put_any p v w hT hp
  rw [hang_one h1] at h
  exact h

theorem new_any (w : World) :
    Calls Try.prog 17 #[] w fun e w' => e = .returned (.pointer (some ⟨w.heap.size, 0, none⟩)) ∧ w' = w.alloc (.cells #[.pointer none] 95) := by
  go_enter Try.func17, Try.ntmps17
  go_wp2_with fail
  go_ret
  exact ⟨rfl, rfl⟩

theorem found_one {X : Nat → Prop} {tb : Nat} {p : K} {v : Vt} (w : World) (hT : TrieAt w X tb (one p v)) (hp : p.Ok) :
    Calls Try.prog 23 #[.pointer (some ⟨tb, 0, none⟩), .int .u32 (p.x : Int)] w fun e w' => e = .returned (.tuple #[.agg #[.int .u32 (p.x : Int), .int .i64 (p.n : Int)], .agg #[.int .i64 v.n, .slice v.l v.len v.cap], .int .i64 0]) ∧ Below w.heap.size w w' :=
  find_some p.x w hT (find_one hp)

end Go.Proofs.Ytmnafocmbcgdiaa.Pa
