/-
  Two pairs apart; IpamTwo.
-/
import Derived.Test.YtjilahbkolcekabES
import Derived.Test.YtjilahbkolcekabEW
namespace Go.Proofs.Ytjilahbkolcekab
open Go.ChangeShapes Go.WideShapes Go.ChangeAt Go.RowKit Go.Maps Tri
set_option maxHeartbeats 4000000
set_option maxRecDepth 100000

/-- A pair's blocks, as four numbers. -/
structure Fp where
  p : Nat
  n : Nat
  a : Nat
  r : Nat
def Fp.has (f : Fp) (vp : Value) (k : Nat) : Prop := fpP f.p f.n f.a f.r vp k
def PrF (w : World) (f : Fp) (vp : Value) (s : Ist) : Prop := Pr w f.p f.n f.a f.r vp s

/-- Two pairs apart, all of them new since w0. -/
def TwP (w0 w : World) (f g : Fp) : Prop := ∃ vp s vp' s', PrF w f vp s ∧ PrF w g vp' s' ∧ (∀ k, f.has vp k → ¬ g.has vp' k) ∧ (∀ k, f.has vp k → w0.heap.size ≤ k) ∧ (∀ k, g.has vp' k → w0.heap.size ≤ k) ∧ Below w0.heap.size w0 w

theorem TwP.swap {w0 w : World} {f g : Fp} (h : TwP w0 w f g) : TwP w0 w g f := by
  obtain ⟨vp, s, vp', s', h1, h2, h3, h4, h5, h6⟩ := h
  exact ⟨vp', s', vp, s, h2, h1, fun k a b => h3 k b a, h5, h4, h6⟩
theorem TwP.be {w0 w : World} {f g : Fp} (h : TwP w0 w f g) : Below w0.heap.size w0 w := by
  obtain ⟨vp, s, vp', s', -, -, -, -, -, h⟩ := h; exact h
theorem TwP.below {w0 w w' : World} {f g : Fp} (h : TwP w0 w f g) (hb : Below w.heap.size w w') : TwP w0 w' f g := by
  obtain ⟨vp, s, vp', s', h1, h2, h3, h4, h5, h6⟩ := h
  exact ⟨vp, s, vp', s', Pr.below h1 hb, Pr.below h2 hb, h3, h4, h5, h6.trans (hb.mono h6.size)⟩
/-- What is new is written. -/
theorem TwP.fresh {w0 w u u' : World} {f g : Fp} (h : TwP w0 w f g) (hb : Below w.heap.size w u) {S : Nat → Prop} (hk : Keeps S u u') (hS : ∀ k, S k → w.heap.size ≤ k) : TwP w0 u' f g :=
  h.below (hb.trans (hk.below hb.size hS))

def PlaysC (f : Fp) (o : Stp) (w : World) (Q : World → Prop) : Prop :=
  Calls Try.prog 13 #[.pointer (some ⟨f.p, 0, none⟩), .pointer (some ⟨f.r, 0, none⟩), .agg #[.int .i64 o.k, .string o.n, .int .u32 (o.a : Int)]] w fun e W => e = .returned (.bool true) ∧ Q W

theorem TwP.play1 {w0 w : World} {f g : Fp} (h : TwP w0 w f g) (o : Stp) (hn : o.n.size ≤ maxLen) (ha : o.a < 4294967296) :
    PlaysC f o w fun W => TwP w0 W f g ∧ ∀ (k : Nat) (cs : Array Value) (t : TypeId), w.heap[k]? = some (Obj.cells cs t (0, 0)) → okT t → W.heap[k]? = some (Obj.cells cs t (0, 0)) := by
  obtain ⟨vp, s, vp', s', h1, h2, h3, h4, h5, h6⟩ := h
  refine (plays_any o w f.p f.n f.a f.r vp s h1 hn ha).mono ?_
  rintro e W ⟨he, vq, hp, hnw, hk⟩
  have hpl : ∀ k, f.has vq k → f.has vp k ∨ w.heap.size ≤ k := fun k hk2 => by
    rcases hk2 with hk2 | rfl | hk2
    · exact .inl (.inl hk2)
    · exact .inl (.inr (.inl rfl))
    · rcases hnw k hk2 with h7 | h7
      · exact .inl (.inr (.inr h7))
      · exact .inr h7
  refine ⟨he, ⟨vq, _, vp', s', hp, Pr.keeps h2 hk fun k a b => h3 k b a, fun k a b => ?_, fun k a => ?_, h5, h6.trans (hk.below h6.size h4)⟩, fun k cs t hk2 ht => (hk.block k (Array.getElem?_eq_some_iff.1 hk2).1 (Pr.other h1 hk2 ht)).trans hk2⟩
  · rcases hpl k a with h7 | h7
    · exact h3 k h7 b
    · have := Pr.lt h2 b
      omega
  · rcases hpl k a with h7 | h7
    · exact h4 k h7
    · exact Nat.le_trans h6.size h7

theorem TwP.play2 {w0 w : World} {f g : Fp} (h : TwP w0 w f g) (o : Stp) (hn : o.n.size ≤ maxLen) (ha : o.a < 4294967296) :
    PlaysC g o w fun W => TwP w0 W f g ∧ ∀ (k : Nat) (cs : Array Value) (t : TypeId), w.heap[k]? = some (Obj.cells cs t (0, 0)) → okT t → W.heap[k]? = some (Obj.cells cs t (0, 0)) :=
  (h.swap.play1 o hn ha).mono fun _ _ ⟨he, h1, h2⟩ => ⟨he, h1.swap, h2⟩

/-- A pair, and another one that is new. -/
theorem Live.two {w0 w w' : World} {f g : Fp} {s' : Ist} (h : Live w0 w f.p f.n f.a f.r) (hp : Pr w' g.p g.n g.a g.r (.slice none 0 0) s') (hk : ∀ k, fpP g.p g.n g.a g.r (.slice none 0 0) k → w.heap.size ≤ k) (hb : Below w.heap.size w w') : TwP w0 w' f g := by
  obtain ⟨vp, s, h1, h2, h3⟩ := h
  refine ⟨vp, s, _, s', Pr.below h1 hb, hp, fun k a b => ?_, h2, fun k a => Nat.le_trans h3.size (hk k a), h3.trans (hb.mono h3.size)⟩
  have e1 := Pr.lt h1 a
  have e2 := hk k b
  omega

def SeesT (w : World) (v : Value) (n : Nat) : Prop :=
  ∃ ao cap, v = .slice ao n cap ∧ n ≤ cap ∧ cap ≤ maxLen ∧ ∀ j, j < n → ∃ g off b, ao = some ⟨g, off, none⟩ ∧ g < w.heap.size ∧ w.cell? ⟨g, off + j, none⟩ = some (.bool b)

theorem SeesT.at {w : World} {ao : Option Addr} {n cap : Nat} (h : SeesT w (.slice ao n cap) n) (j : Nat) (hj : j < n) : ∃ (g off : Nat) (b : Bool), ao = some ⟨g, off, none⟩ ∧ ∀ u : World, Below w.heap.size w u → u.cell? ⟨g, off + j, none⟩ = some (.bool b) := by
  obtain ⟨ao', cap', hv, h1, h2, h3⟩ := h
  simp at hv
  obtain ⟨rfl, rfl⟩ := hv
  obtain ⟨g, off, b, ha, hg, c⟩ := h3 j hj
  exact ⟨g, off, b, ha, fun u hu => (hu.cell (p := ⟨g, _, none⟩) hg).trans c⟩

theorem uBo : Try.prog.underlying 29 = some (.slice 4) := by kernel_rfl
theorem cell1_bo : Try.prog.cellsOf 4 = 1 := by kernel_rfl
section
variable {H : Type} {enc : TypeId × Value → H} {W : World}
theorem open_bo {base : Nat} {v : Value} {d : DataW H} {ps : List MemPlace} (hval : Value.okWide Try.prog W .any base 29 v) (h : DataW.Trod enc Try.prog W 0 (fun _ => true) true 29 v d ps) :
    ∃ n, SeesT W v n := by
  obtain ⟨a0, len0, cap0, rfl⟩ := okWide_slice uBo hval
  obtain ⟨fuel, hf⟩ := h
  rcases Go.Deep.open_slice uBo hf with ⟨h1, hx⟩ | ⟨a, len, cap, m, n, D, Pl, h1, _, hlc, hcm, hm, hxx, hx⟩
  · simp [Value.cells] at h1
    obtain ⟨rfl, rfl, rfl⟩ := h1
    exact ⟨0, none, 0, rfl, Nat.le_refl _, Nat.zero_le _, fun j hj => absurd hj (Nat.not_lt_zero j)⟩
  · simp [Value.cells] at h1
    obtain ⟨rfl, rfl, rfl⟩ := h1
    simp at hm
    subst hm
    have key : ∀ i, i < len0 → ∃ b : Bool, W.cell? (a.add i) = some (.bool b) := by
      intro i hi
      obtain ⟨cs', k1, k2⟩ := hx i (by omega)
      rw [cell1_bo, Nat.mul_one] at k1
      obtain ⟨_, _, hc⟩ := World.cells?_some k1
      obtain ⟨b, e1, _⟩ := DataW.trod_bool Try.underlying4 k2
      refine ⟨b, ?_⟩
      have := hc 0 (by omega)
      rw [e1] at this
      simpa [Addr.add] using this
    refine ⟨len0, some a, _, rfl, by omega, by omega, fun j hj => ?_⟩
    obtain ⟨b, hb⟩ := key j hj
    obtain ⟨g, off, rfl, hg⟩ : ∃ g off, a = ⟨g, off, none⟩ ∧ g < W.heap.size := by
      obtain ⟨b0, z0⟩ := key 0 (by omega)
      have e : a.add 0 = a := by simp [Addr.add]
      rw [e] at z0
      exact spot_none z0
    rw [add_plain] at hb
    exact ⟨g, off, b, rfl, hg, hb⟩
end

theorem begins_any (v : Value) (n : Nat) (w : World) (h : SeesT w v n) :
    Calls Try.prog 12 #[v] w fun e w' => (∃ k : Nat, k ≤ n ∧ e = .returned (.int .i64 (k : Int))) ∧ w' = w := by
  obtain ⟨ao, cap, rfl, h1, h2, -⟩ := id h
  have HT := hid h
  have hcap : cap ≤ 9223372036854775807 := by unfold maxLen at h2; omega
  clear h h2
  go_enter Try.func12, Try.ntmps12
  go_upto_region 2 with fail
  go_loopw [3] (fun i wr => ∃ j : Nat, i = .int .i64 (j : Int) ∧ j ≤ n ∧ wr = w) (fun i _ => n - (intOf i).toNat)
  case atStart => exact ⟨0, rfl, Nat.zero_le _, rfl⟩
  case round =>
    obtain ⟨j, rfl, hj, rfl⟩ := hrel
    by_cases hlt : j < n
    · have hlt' : (j : Int) < (n : Int) := int_lt hlt
      obtain ⟨g, off, b, rfl, hcl⟩ := HT.out.at j hlt
      have c := hcl wr (Below.refl _ _)
      clear hcl
      cases b with
      | true =>
        go_wp2_with fail
        go_ret
        exact ⟨⟨j, hj, rfl⟩, rfl⟩
      | false =>
        go_wp2_with fail
        go_roundw
        case rel => exact ⟨j + 1, by go_num, hlt, trivial⟩
        case measure => simp [intOf]; omega
    · have hlt' : ¬ (j : Int) < (n : Int) := int_nlt hlt
      go_wp2_with fail
      go_ret
      exact ⟨⟨n, Nat.le_refl _, rfl⟩, rfl⟩
end Go.Proofs.Ytjilahbkolcekab
