import Derived.Test.YtpdnnikkaojnkaaGreatYLO
import Derived.Test.YtpdnnikkaojnkaaGreatYLS1
namespace Go.Proofs.YtpdnnikkaojnkaaGreat.Rt
open Go.Proofs.YtpdnnikkaojnkaaGreat Go.ChangeShapes Go.WideShapes Go.ChangeAt Go.RowKit Go.Maps Tri N
set_option maxHeartbeats 8000000
set_option maxRecDepth 100000
def KK (B N : Nat) (w : World) (k1 k2 : Nat) (s1 s2 : Ks) : Prop := ∃ b1 b2, KAt w (fun c => B ≤ c ∧ c < N) b1 s1 ∧ KAt w (fun c => B ≤ c ∧ c < N) b2 s2 ∧ b1.kb = k1 ∧ b2.kb = k2 ∧ (∀ c, fpK b1 c → ¬ fpK b2 c)
theorem KK.swap {B N : Nat} {w : World} {k1 k2 : Nat} {s1 s2 : Ks} (h : KK B N w k1 k2 s1 s2) : KK B N w k2 k1 s2 s1 := by
  obtain ⟨b1, b2, h1, h2, e1, e2, hd⟩ := h
  exact ⟨b2, b1, h2, h1, e2, e1, fun c h h' => hd c h' h⟩
theorem KK.below {B N : Nat} {w w' : World} {k1 k2 : Nat} {s1 s2 : Ks} (h : KK B N w k1 k2 s1 s2) (hb : Below w.heap.size w w') : KK B N w' k1 k2 s1 s2 := by
  obtain ⟨b1, b2, h1, h2, e1, e2, hd⟩ := h
  exact ⟨b1, b2, h1.below hb, h2.below hb, e1, e2, hd⟩
theorem KK.ok {B N : Nat} {w : World} {k1 k2 : Nat} {s1 s2 : Ks} (h : KK B N w k1 k2 s1 s2) : s1.Ok := by
  obtain ⟨b1, b2, h1, _⟩ := h
  exact h1.ok
theorem KK.new {w1 w2 w3 : World} {b1 b2 : Bks} {s : Ks} (hR : s.R = []) (h1 : KAt w2 (fun c => w1.heap.size ≤ c ∧ c < w2.heap.size) b1 s) (hb1 : Below w1.heap.size w1 w2) (h2 : KAt w3 (fun c => w2.heap.size ≤ c ∧ c < w3.heap.size) b2 s) (hb2 : Below w2.heap.size w2 w3) : KK w1.heap.size w3.heap.size w3 b1.kb b2.kb s s := by
  have z1 := hb1.size
  have z2 := hb2.size
  refine ⟨b1, b2, h1.grow (Z := fun _ => False) (Chg.of_below hb2) (fun c e => e.elim) (fun c e => by by_cases h : c < w2.heap.size; exact .inl ⟨e.1, h⟩; exact .inr (by omega)) (fun c e => ⟨e.1, by have := e.2; omega⟩) (fun c e => e.2), h2.wide hR (fun c e => ⟨by have := e.1; omega, e.2⟩) (fun c e => e.2), rfl, rfl, fun c e e' => ?_⟩
  have := (h1.fpx e).2
  have := (h2.fpx e').1
  omega
theorem KK.do {B N : Nat} {w : World} {k1 k2 : Nat} {s1 s2 : Ks} (h : KK B N w k1 k2 s1 s2) (hB : B ≤ w.heap.size) {K : Nat → Prop} {a : Option Addr} {n : Nat} (c : Nat) {L : List Opv} (hs : SeesOp K w a n L) (hK : ∀ c, K c → c < B ∨ N ≤ c) (hL : ∀ o ∈ L, o.Ok) (hn : n ≤ 9223372036854775807) :
    Calls Tryz.prog 7 #[.pointer (some ⟨k1, 0, none⟩), .slice a n c] w fun e w' => e = .returned (.tuple #[.int .i64 (doN s1 L : Int), .int .i64 (doE s1 L)]) ∧ KK B N w' k1 k2 (doS s1 L) s2 ∧ Below B w w' := by
  obtain ⟨b1, b2, h1, h2, rfl, e2, hd⟩ := h
  have hne : ∀ x y, K x → fpK b1 y → x ≠ y := fun x y hx hy e => by
    have := h1.fpx hy
    have := hK x hx
    omega
  have ht : ∀ x, (x = b1.tb ∨ x = b1.bm ∨ x = b1.fm) → fpK b1 x := fun x e => by unfold fpK; rcases e with e | e | e <;> simp [e]
  refine (do_any w c h1 hs (fun c hc => ⟨hne c _ hc (ht _ (.inl rfl)), hne c _ hc (ht _ (.inr (.inl rfl))), hne c _ hc (ht _ (.inr (.inr rfl)))⟩) hL hn).mono ?_
  rintro e w' ⟨he, hk, hc⟩
  exact ⟨he, ⟨b1, b2, hk, h2.chg hc (fun c hz _ => ⟨h1.fpx (ht c hz), hd c (ht c hz)⟩), rfl, e2, hd⟩, hc.keeps.below hB fun c hz => (h1.fpx (ht c hz)).1⟩
theorem KK.dump {B N : Nat} {w : World} {k1 k2 : Nat} {s1 s2 : Ks} (h : KK B N w k1 k2 s1 s2) : Calls Tryz.prog 8 #[.pointer (some ⟨k1, 0, none⟩)] w fun e w' => ∃ v, e = .returned v ∧ Dmp w w' s1 v := by
  obtain ⟨b1, b2, h1, h2, rfl, e2, hd⟩ := h
  exact dump_any w h1
theorem KK.one {B N : Nat} {w w' : World} {k1 k2 : Nat} {s1 s2 : Ks} {o : Opv} (h : KK B N w k1 k2 s1 s2) (hB : B ≤ w.heap.size) (hN : N ≤ w.heap.size) (hw : w' = w.alloc (.cells o.cells 46)) (ho : o.Ok) :
    Calls Tryz.prog 7 #[.pointer (some ⟨k1, 0, none⟩), .slice (some ⟨w.heap.size, 0, none⟩) 1 1] w' fun e w'' => e = .returned (.tuple #[.int .i64 ((if oneE s1 o = 0 then 1 else 0 : Nat) : Int), .int .i64 (oneE s1 o)]) ∧ KK B N w'' k1 k2 (oneS s1 o) s2 ∧ Below B w w'' := by
  have hb : Below w.heap.size w w' := by rw [hw]; exact (Below.refl _ _).alloc (Nat.le_refl _) _
  have hr : w'.heap[w.heap.size]? = some (.cells o.cells 46) := by rw [hw]; exact heap_alloc_new w _
  obtain ⟨d1, d2, d3⟩ := do_one s1 o
  refine ((h.below hb).do (Nat.le_trans hB hb.size) 1 (sees_one hr) (fun c hc => .inr (by rw [hc]; exact hN)) (fun x hx => by rw [List.mem_singleton] at hx; rw [hx]; exact ho) (by decide)).mono ?_
  rintro e w'' ⟨he, hk, hb2⟩
  rw [d1, d2] at he
  rw [d3] at hk
  exact ⟨he, hk, (hb.mono hB).trans hb2⟩
structure K2 (w0 : World) (N : Nat) (w : World) (k1 k2 : Nat) (s1 s2 : Ks) : Prop where
  kk : KK w0.heap.size N w k1 k2 s1 s2
  bel : Below w0.heap.size w0 w
  hi : N ≤ w.heap.size
theorem K2.swap {w0 : World} {N : Nat} {w : World} {k1 k2 : Nat} {s1 s2 : Ks} (h : K2 w0 N w k1 k2 s1 s2) : K2 w0 N w k2 k1 s2 s1 := ⟨h.kk.swap, h.bel, h.hi⟩
theorem K2.below {w0 : World} {N : Nat} {w w' : World} {k1 k2 : Nat} {s1 s2 : Ks} (h : K2 w0 N w k1 k2 s1 s2) (hb : Below w.heap.size w w') : K2 w0 N w' k1 k2 s1 s2 := ⟨h.kk.below hb, h.bel.trans (hb.mono h.bel.size), Nat.le_trans h.hi hb.size⟩
theorem K2.one {w0 : World} {N : Nat} {w w' : World} {k1 k2 : Nat} {s1 s2 : Ks} {o : Opv} (h : K2 w0 N w k1 k2 s1 s2) (hw : w' = w.alloc (.cells o.cells 46)) (ho : o.Ok) :
    Calls Tryz.prog 7 #[.pointer (some ⟨k1, 0, none⟩), .slice (some ⟨w.heap.size, 0, none⟩) 1 1] w' fun e w'' => e = .returned (.tuple #[.int .i64 ((if oneE s1 o = 0 then 1 else 0 : Nat) : Int), .int .i64 (oneE s1 o)]) ∧ K2 w0 N w'' k1 k2 (oneS s1 o) s2 := by
  refine (h.kk.one h.bel.size h.hi hw ho).mono ?_
  rintro e w'' ⟨he, hk, hb⟩
  exact ⟨he, hk, h.bel.trans hb, Nat.le_trans h.hi hb.size⟩
end Go.Proofs.YtpdnnikkaojnkaaGreat.Rt
