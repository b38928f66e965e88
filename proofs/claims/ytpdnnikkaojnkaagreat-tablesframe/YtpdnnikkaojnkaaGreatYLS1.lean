import Derived.Test.YtpdnnikkaojnkaaGreatYLN
namespace Go.Proofs.YtpdnnikkaojnkaaGreat.Rt
open Go.Proofs.YtpdnnikkaojnkaaGreat Go.ChangeShapes Go.WideShapes Go.ChangeAt Go.RowKit Go.Maps Tri N
set_option maxHeartbeats 8000000
set_option maxRecDepth 100000
theorem do_one (s : Ks) (o : Opv) : doN s [o] = (if oneE s o = 0 then 1 else 0) /\ doE s [o] = oneE s o /\ doS s [o] = oneS s o := by
 by_cases h : oneE s o = 0
 ·simp [doN, doE, doS, h]
 ·refine ⟨by simp [doN, h], by simp [doE, h], ?_⟩
  simp [doS, oneS, h]
theorem sees_one {w : World} {g : Nat} {o : Opv} (h : w.heap[g]? = some (.cells o.cells 46)) : SeesOp (fun c => c = g) w (some ⟨g, 0, none⟩) 1 [o] := by
 refine ⟨rfl, .inr ⟨g, 0, rfl, rfl, (gsl h), fun j x hx i v hv => ?_⟩⟩
 rw [cell_of_row _ _ _ _ _ _ h]
 match j, hx with
 | 0, hx =>
  obtain rfl := Option.some.inj hx
  rw [show 0 + 0 * 19 + i = i by omega, <- Array.getElem?_toList]
  exact hv
 | j + 1, hx => cases hx
structure K1 (w0 : World) (N : Nat) (w : World) (k : Nat) (s : Ks) : Prop where
 at_ : ∃ b, KAt w (fun c => w0.heap.size <= c /\ c < N) b s /\ b.kb = k
 bel : Below w0.heap.size w0 w
 hi : N <= w.heap.size
theorem K1.ok {w0 : World} {N : Nat} {w : World} {k : Nat} {s : Ks} (h : K1 w0 N w k s) : s.Ok := by
 obtain ⟨b, h1, _⟩ := h.at_
 exact h1.ok
theorem K1.below {w0 : World} {N : Nat} {w w' : World} {k : Nat} {s : Ks} (h : K1 w0 N w k s) (hb : Below w.heap.size w w') : K1 w0 N w' k s := by
 obtain ⟨b, h1, e1⟩ := h.at_
 exact ⟨⟨b, h1.below hb, e1⟩, h.bel.trans (hb.mono h.bel.size), Nat.le_trans h.hi hb.size⟩
theorem K1.do {w0 : World} {N : Nat} {w : World} {k : Nat} {s : Ks} (h : K1 w0 N w k s) {K : Nat -> Prop} {a : Option Addr} {n : Nat} (c : Nat) {L : List Opv} (hs : SeesOp K w a n L) (hK : ∀ c, K c -> c < w0.heap.size \/ N <= c) (hL : ∀ o ∈ L, o.Ok) (hn : n <= 9223372036854775807) :
  Calls Tryz.prog 7 #[.pointer (some ⟨k, 0, none⟩), .slice a n c] w fun e w' => e = .returned (.tuple #[.int .i64 (doN s L : Int), .int .i64 (doE s L)]) /\ K1 w0 N w' k (doS s L) /\ (∀ c, c < w.heap.size -> (c < w0.heap.size \/ N <= c) -> w'.heap[c]? = w.heap[c]?) := by
 obtain ⟨⟨b1, h1, rfl⟩, hb, hi⟩ := h
 have hne : ∀ x y, K x -> fpK b1 y -> x ≠ y := fun x y hx hy e => by
  have := h1.fpx hy
  have := hK x hx
  omega
 have ht : ∀ x, (x = b1.tb \/ x = b1.bm \/ x = b1.fm) -> fpK b1 x := fun x e => by unfold fpK; rcases e with e | e | e <;> simp [e]
 refine (do_any w c h1 hs (fun c hc => ⟨hne c _ hc (ht _ (.inl rfl)), hne c _ hc (ht _ (.inr (.inl rfl))), hne c _ hc (ht _ (.inr (.inr rfl)))⟩) hL hn).mono ?_
 rintro e w' ⟨he, hk, hc⟩
 exact ⟨he, ⟨⟨b1, hk, rfl⟩, hb.trans (hc.keeps.below hb.size fun c hz => (h1.fpx (ht c hz)).1), Nat.le_trans hi hc.size⟩, fun c hl hn => hc.block c hl fun hz => by have := h1.fpx (ht c hz); omega⟩
theorem K1.dump {w0 : World} {N : Nat} {w : World} {k : Nat} {s : Ks} (h : K1 w0 N w k s) : Calls Tryz.prog 8 #[.pointer (some ⟨k, 0, none⟩)] w fun e w' => ∃ v, e = .returned v /\ Dmp w w' s v := by
 obtain ⟨b1, h1, rfl⟩ := h.at_
 exact dump_any w h1
theorem K1.new {w1 w2 : World} {b : Bks} {s : Ks} (h1 : KAt w2 (fun c => w1.heap.size <= c /\ c < w2.heap.size) b s) (hb1 : Below w1.heap.size w1 w2) : K1 w1 w2.heap.size w2 b.kb s := ⟨⟨b, h1, rfl⟩, hb1, nL⟩
section
variable {H : Type} {enc : TypeId × Value -> H} {W : World}
theorem open_ps {base : Nat} {v : Value} {d : DataW H} {ps : List MemPlace} (hval : Value.okWide Tryz.prog W .any base 24 v) (h : DataW.Trod enc Tryz.prog W 0 (fun _ => true) true 24 v d ps) :
  ∃ a n c L, v = .slice a n c /\ SeesOp (fun k => k < W.heap.size) W a n L /\ (∀ o ∈ L, o.Ok) /\ n <= 9223372036854775807 := by
 obtain ⟨a0, len, cap, rfl⟩ := okWide_slice uOps hval
 obtain ⟨fuel, hf⟩ := h
 obtain ⟨a, n, c, L, h1, h2, h3, h4⟩ := open_ops hf
 simp [Value.cells] at h1
 obtain ⟨rfl, rfl, rfl⟩ := h1
 exact ⟨_, _, _, L, rfl, h2, h3, h4⟩
end
end Go.Proofs.YtpdnnikkaojnkaaGreat.Rt
