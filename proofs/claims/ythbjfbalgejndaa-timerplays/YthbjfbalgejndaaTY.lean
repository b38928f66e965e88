import Derived.Test.YthbjfbalgejndaaTX
namespace Go.Proofs.Ythbjfbalgejndaa
open Go.ChangeShapes Go.WideShapes Go.ChangeAt Go.RowKit Go.Maps H
set_option maxHeartbeats 4000000
set_option maxRecDepth 100000

/-- A pair that is there, or two nils. -/
def Live (w : World) (t r : Value) (F : List Nat) : Prop :=
  (t = .pointer none ∧ r = .pointer none ∧ F = []) ∨ ∃ b1 m1 g1 b2 g2 lim S, t = .pointer (some ⟨b1, 0, none⟩) ∧ r = .pointer (some ⟨b2, 0, none⟩) ∧ Pr w b1 m1 g1 b2 g2 lim S ∧ F = fpP b1 m1 g1 b2 g2

theorem Live.nil (w : World) : Live w (.pointer none) (.pointer none) [] := .inl ⟨rfl, rfl, rfl⟩

theorem Live.fr {w w' : World} {t r : Value} {F G : List Nat} (h : Live w t r F) (hf : Fr G w w') (hd : ∀ x ∈ F, x ∉ G) : Live w' t r F := by
  rcases h with h | ⟨b1, m1, g1, b2, g2, lim, S, rfl, rfl, hP, rfl⟩
  · exact .inl h
  · exact .inr ⟨b1, m1, g1, b2, g2, lim, S, rfl, rfl, hP.fr hf hd, rfl⟩

theorem Live.lt {w : World} {t r : Value} {F : List Nat} (h : Live w t r F) : ∀ x ∈ F, x < w.heap.size := by
  rcases h with ⟨_, _, rfl⟩ | ⟨b1, m1, g1, b2, g2, lim, S, rfl, rfl, hP, rfl⟩
  · simp
  · exact hP.lt

/-- Three pairs apart, made since B. -/
def St (wB w : World) (t r u s x y : Value) : Prop :=
  ∃ Ft Fu Fx, Live w t r Ft ∧ Live w u s Fu ∧ Live w x y Fx ∧ (∀ z ∈ Ft, z ∉ Fu) ∧ (∀ z ∈ Ft, z ∉ Fx) ∧ (∀ z ∈ Fu, z ∉ Fx) ∧ (∀ z ∈ Ft, wB.heap.size ≤ z) ∧ (∀ z ∈ Fu, wB.heap.size ≤ z) ∧ (∀ z ∈ Fx, wB.heap.size ≤ z) ∧ Below wB.heap.size wB w

theorem St.swap {wB w : World} {t r u s x y : Value} (h : St wB w t r u s x y) : St wB w u s t r x y := by
  obtain ⟨Ft, Fu, Fx, h1, h2, h3, d1, d2, d3, n1, n2, n3, hb⟩ := h
  exact ⟨Fu, Ft, Fx, h2, h1, h3, fun z hz hy => d1 z hy hz, d3, d2, n2, n1, n3, hb⟩

theorem St.turn {wB w : World} {t r u s x y : Value} (h : St wB w t r u s x y) : St wB w x y u s t r := by
  obtain ⟨Ft, Fu, Fx, h1, h2, h3, d1, d2, d3, n1, n2, n3, hb⟩ := h
  exact ⟨Fx, Fu, Ft, h3, h2, h1, fun z hz hy => d3 z hy hz, fun z hz hy => d2 z hy hz, fun z hz hy => d1 z hy hz, n3, n2, n1, hb⟩

theorem St.below {wB w w' : World} {t r u s x y : Value} (h : St wB w t r u s x y) (hb' : Below w.heap.size w w') : St wB w' t r u s x y := by
  obtain ⟨Ft, Fu, Fx, h1, h2, h3, d1, d2, d3, n1, n2, n3, hb⟩ := h
  have hf := Fr.of_below hb' []
  exact ⟨Ft, Fu, Fx, h1.fr hf (by simp), h2.fr hf (by simp), h3.fr hf (by simp), d1, d2, d3, n1, n2, n3, hb.trans (hb'.mono hb.size)⟩

theorem St.far {wB w : World} {t r u s x y : Value} (h : St wB w t r u s x y) : Below wB.heap.size wB w := by
  obtain ⟨Ft, Fu, Fx, _, _, _, _, _, _, _, _, _, hb⟩ := h
  exact hb

theorem St.play {wB w : World} {b1 b2 : Nat} {u s x y : Value} (h : St wB w (.pointer (some ⟨b1, 0, none⟩)) (.pointer (some ⟨b2, 0, none⟩)) u s x y) (kd on i a : Int) (hi : In64 i) (ha : In64 a) :
    Calls Try.prog 25 #[.pointer (some ⟨b1, 0, none⟩), .pointer (some ⟨b2, 0, none⟩), .agg #[.int .i64 kd, .int .i64 on, .int .i64 i, .int .i64 a]] w fun e w' => e = .returned (.bool true) ∧ St wB w' (.pointer (some ⟨b1, 0, none⟩)) (.pointer (some ⟨b2, 0, none⟩)) u s x y := by
  obtain ⟨Ft, Fu, Fx, h1, h2, h3, d1, d2, d3, n1, n2, n3, hb⟩ := h
  rcases h1 with ⟨h, _⟩ | ⟨b1', m1, g1, b2', g2, lim, S, e1, e2, hP, rfl⟩
  · cases h
  · cases e1
    cases e2
    refine (plays_any hP kd on i a hi ha).mono ?_
    rintro e w' ⟨rfl, g1', g2', S', hP', hx, hf⟩
    have l2 := h2.lt
    have l3 := h3.lt
    refine ⟨rfl, ⟨fpP b1 m1 g1' b2 g2', Fu, Fx, .inr ⟨b1, m1, g1', b2, g2', lim, S', rfl, rfl, hP', rfl⟩, h2.fr hf (fun z hz hy => d1 z hy hz), h3.fr hf (fun z hz hy => d2 z hy hz), fun z hz hy => ?_, fun z hz hy => ?_, d3, fun z hz => ?_, n2, n3, hb.trans (hf.below n1 hb.size)⟩⟩
    · rcases hx z hz with h | h
      · exact d1 z h hy
      · have := l2 z hy; omega
    · rcases hx z hz with h | h
      · exact d2 z h hy
      · have := l3 z hy; omega
    · rcases hx z hz with h | h
      · exact n1 z h
      · exact Nat.le_trans hb.size h

/-- A new pair in the third place. -/
theorem St.put {wB w w' : World} {t r u s x y x' y' : Value} {F : List Nat} (h : St wB w t r u s x y) (hb' : Below w.heap.size w w') (hL : Live w' x' y' F) (hF : ∀ z ∈ F, w.heap.size ≤ z) : St wB w' t r u s x' y' := by
  obtain ⟨Ft, Fu, Fx, h1, h2, h3, d1, d2, d3, n1, n2, n3, hb⟩ := h
  have hf := Fr.of_below hb' []
  have l1 := h1.lt
  have l2 := h2.lt
  exact ⟨Ft, Fu, F, h1.fr hf (by simp), h2.fr hf (by simp), hL, d1, fun z hz hy => by have := l1 z hz; have := hF z hy; omega, fun z hz hy => by have := l2 z hz; have := hF z hy; omega, n1, n2, fun z hz => Nat.le_trans hb.size (hF z hz), hb.trans (hb'.mono hb.size)⟩

theorem pair_good (n : Int) (w : World) (h1 : 1 ≤ n) (h2 : n ≤ 65536) :
    Calls Try.prog 11 #[.int .i64 n] w fun e w1 => ∃ b, e = .returned (.tuple #[.pointer (some ⟨b, 0, none⟩), .int .i64 0]) ∧ Below w.heap.size w w1 ∧
      Calls Try.prog 24 #[.int .i64 n] w1 fun e w2 => ∃ b2 F, e = .returned (.tuple #[.pointer (some ⟨b2, 0, none⟩), .int .i64 0]) ∧ Below w.heap.size w w2 ∧ Live w2 (.pointer (some ⟨b, 0, none⟩)) (.pointer (some ⟨b2, 0, none⟩)) F ∧ ∀ z ∈ F, w.heap.size ≤ z := by
  refine (new_good n w h1 h2).mono ?_
  rintro e w1 ⟨b, bm, rfl, hT, hb, hbm, _, hbw⟩
  refine ⟨b, rfl, hbw, ?_⟩
  refine (rnew_good n w1 h1 h2).mono ?_
  rintro e w2 ⟨b2, rfl, hR, hb2, hbw2⟩
  have hlt := hT.lt
  refine ⟨b2, fpP b bm none b2 none, rfl, hbw.trans (hbw2.mono hbw.size), .inr ⟨b, bm, none, b2, none, n, [], rfl, rfl, ⟨hT.below hbw2, ⟨[], hR, List.Pairwise.nil, fun x => Iff.rfl⟩, fun x hx hy => ?_⟩, rfl⟩, fun z hz => ?_⟩
  · have := hlt x hx
    simp [fpR] at hy
    omega
  · rcases mem_fpP.1 hz with hz | hz
    · simp [fp] at hz
      rcases hz with rfl | rfl <;> assumption
    · simp [fpR] at hz
      have := hbw.size
      omega

abbrev Op4 : Type := Int × Int × Int × Int

/-- The slice value v shows the steps L. -/
def SeesS (w : World) (v : Value) (L : List Op4) : Prop :=
  ∃ ao cap, v = .slice ao L.length cap ∧ L.length ≤ cap ∧ cap ≤ maxLen ∧
    ∀ j (h : j < L.length), ∃ g off, ao = some ⟨g, off, none⟩ ∧ g < w.heap.size ∧ w.cell? ⟨g, off + j * 4, none⟩ = some (.int .i64 L[j].1) ∧ w.cell? ⟨g, off + j * 4 + 1, none⟩ = some (.int .i64 L[j].2.1) ∧ w.cell? ⟨g, off + j * 4 + 2, none⟩ = some (.int .i64 L[j].2.2.1) ∧ w.cell? ⟨g, off + j * 4 + 3, none⟩ = some (.int .i64 L[j].2.2.2) ∧ In64 L[j].2.2.1 ∧ In64 L[j].2.2.2

theorem SeesS.shape {w : World} {v : Value} {L : List Op4} (h : SeesS w v L) : ∃ ao n cap, v = .slice ao n cap ∧ Hid (n = L.length) ∧ n ≤ cap ∧ cap ≤ maxLen := by
  obtain ⟨ao, cap, hv, h1, h2, _⟩ := h
  exact ⟨ao, L.length, cap, hv, rfl, h1, h2⟩

theorem SeesS.at {w : World} {ao : Option Addr} {n cap : Nat} {L : List Op4} (h : SeesS w (.slice ao n cap) L) (j : Nat) (hj : j < n) : ∃ (g off : Nat) (kd on i a : Int), ao = some ⟨g, off, none⟩ ∧ w.cell? ⟨g, off + j * 4, none⟩ = some (.int .i64 kd) ∧ w.cell? ⟨g, off + j * 4 + 1, none⟩ = some (.int .i64 on) ∧ w.cell? ⟨g, off + j * 4 + 2, none⟩ = some (.int .i64 i) ∧ w.cell? ⟨g, off + j * 4 + 3, none⟩ = some (.int .i64 a) ∧ In64 i ∧ In64 a := by
  obtain ⟨ao', cap', hv, h1, h2, h3⟩ := h
  simp at hv
  obtain ⟨rfl, rfl, rfl⟩ := hv
  obtain ⟨g, off, a, _, c0, c1, c2, c3, e, f⟩ := h3 j hj
  exact ⟨g, off, _, _, _, _, a, c0, c1, c2, c3, e, f⟩

theorem SeesS.below {w w' : World} {v : Value} {L : List Op4} (h : SeesS w v L) (hb : Below w.heap.size w w') : SeesS w' v L := by
  obtain ⟨ao, cap, hv, h1, h2, h3⟩ := h
  refine ⟨ao, cap, hv, h1, h2, fun j hj => ?_⟩
  obtain ⟨g, off, ha, hg, c0, c1, c2, c3, e, f⟩ := h3 j hj
  exact ⟨g, off, ha, Nat.lt_of_lt_of_le hg hb.size, (hb.cell (p := ⟨g, _, none⟩) hg).trans c0, (hb.cell (p := ⟨g, _, none⟩) hg).trans c1, (hb.cell (p := ⟨g, _, none⟩) hg).trans c2, (hb.cell (p := ⟨g, _, none⟩) hg).trans c3, e, f⟩
end Go.Proofs.Ythbjfbalgejndaa
