/-
  tables, the law: two kernels of the program's.
-/
import Derived.Test.YtpdokaoholifkabGreatLO
namespace Go.Proofs.YtpdokaoholifkabGreat.Rt
open Go.Proofs.YtpdokaoholifkabGreat Go.ChangeShapes Go.WideShapes Go.ChangeAt Go.RowKit Go.Maps Tri N
set_option maxHeartbeats 8000000
set_option maxRecDepth 100000

theorem doN_le (s : Ks) (L : List Opv) : doN s L ≤ L.length := by
  induction L generalizing s with
  | nil => exact Nat.le_refl _
  | cons x l ih =>
    unfold doN
    split
    · have := ih (oneS s x); simp only [List.length_cons]; omega
    · exact Nat.zero_le _
theorem doN_lt (s : Ks) (L : List Opv) : doN s L < L.length ↔ doE s L ≠ 0 := by
  induction L generalizing s with
  | nil => simp [doN, doE]
  | cons x l ih =>
    unfold doN doE
    by_cases h : oneE s x = 0
    · rw [if_pos h, if_pos h, ← ih (oneS s x), List.length_cons]
      omega
    · rw [if_neg h, if_neg h]
      simp [h]
theorem do_one (s : Ks) (o : Opv) : doN s [o] = (if oneE s o = 0 then 1 else 0) ∧ doE s [o] = oneE s o ∧ doS s [o] = oneS s o := by
  by_cases h : oneE s o = 0
  · simp [doN, doE, doS, h]
  · refine ⟨by simp [doN, h], by simp [doE, h], ?_⟩
    simp [doS, oneS, h]
theorem do_at (s : Ks) (L : List Opv) {i : Nat} {o : Opv} (hi : i < doN s L) (ho : L[i]? = some o) : oneE (doS s (L.take i)) o = 0 ∧ doS s (L.take (i + 1)) = oneS (doS s (L.take i)) o := by
  induction L generalizing s i with
  | nil => cases ho
  | cons x l ih =>
    unfold doN at hi
    by_cases h : oneE s x = 0
    · rw [if_pos h] at hi
      cases i with
      | zero =>
        obtain rfl := Option.some.inj ho
        simp [doS, h]
      | succ i =>
        have := ih (oneS s x) (i := i) (by omega) ho
        simpa [doS, h] using this
    · rw [if_neg h] at hi
      omega
theorem do_stop (s : Ks) (L : List Opv) {o : Opv} (ho : L[doN s L]? = some o) : oneE (doS s (L.take (doN s L))) o = doE s L ∧ doE s L ≠ 0 := by
  induction L generalizing s with
  | nil => cases ho
  | cons x l ih =>
    by_cases h : oneE s x = 0
    · have e : doN s (x :: l) = doN (oneS s x) l + 1 := by simp [doN, h]
      rw [e] at ho ⊢
      have := ih (oneS s x) ho
      simpa [doS, doE, h] using this
    · have e : doN s (x :: l) = 0 := by simp [doN, h]
      rw [e] at ho ⊢
      obtain rfl := Option.some.inj ho
      simp [doS, doE, h]
theorem do_take (s : Ks) (L : List Opv) : doS s (L.take (doN s L)) = doS s L := by
  induction L generalizing s with
  | nil => rfl
  | cons x l ih =>
    by_cases h : oneE s x = 0
    · have e : doN s (x :: l) = doN (oneS s x) l + 1 := by simp [doN, h]
      rw [e]
      have := ih (oneS s x)
      simpa [doS, h] using this
    · have e : doN s (x :: l) = 0 := by simp [doN, h]
      rw [e]
      simp [doS, h]

/-- Two kernels apart, in blocks from B to N (and nodes that nothing writes). -/
def KK (B N : Nat) (w : World) (k1 k2 : Nat) (s1 s2 : Ks) : Prop := ∃ b1 b2, KAt w (fun c => B ≤ c ∧ c < N) b1 s1 ∧ KAt w (fun c => B ≤ c ∧ c < N) b2 s2 ∧ b1.kb = k1 ∧ b2.kb = k2 ∧ (∀ c, fpK b1 c → ¬ fpK b2 c)
theorem KK.swap {B N : Nat} {w : World} {k1 k2 : Nat} {s1 s2 : Ks} (h : KK B N w k1 k2 s1 s2) : KK B N w k2 k1 s2 s1 := by
  obtain ⟨b1, b2, h1, h2, e1, e2, hd⟩ := h
  exact ⟨b2, b1, h2, h1, e2, e1, fun c h h' => hd c h' h⟩
theorem KK.below {B N : Nat} {w w' : World} {k1 k2 : Nat} {s1 s2 : Ks} (h : KK B N w k1 k2 s1 s2) (hb : Below w.heap.size w w') : KK B N w' k1 k2 s1 s2 := by
  obtain ⟨b1, b2, h1, h2, e1, e2, hd⟩ := h
  exact ⟨b1, b2, h1.below hb, h2.below hb, e1, e2, hd⟩
theorem KK.ok {B N : Nat} {w : World} {k1 k2 : Nat} {s1 s2 : Ks} (h : KK B N w k1 k2 s1 s2) : s1.Ok := by
  obtain ⟨b1, b2, h1, _⟩ := h
  exact h1.ok
theorem KK.new {w1 w2 w3 : World} {b1 b2 : Bks} {s : Ks} (hR : s.R = []) (h1 : KAt w2 (fun c => w1.heap.size ≤ c ∧ c < w2.heap.size) b1 s) (hb1 : Below w1.heap.size w1 w2) (h2 : KAt w3 (fun c => w2.heap.size ≤ c ∧ c < w3.heap.size) b2 s) (hb2 : Below w2.heap.size w2 w3) : KK w1.heap.size w3.heap.size w3 b1.kb b2.kb s s := by
  have z1 := hb1.size
  have z2 := hb2.size
  refine ⟨b1, b2, h1.grow (Z := fun _ => False) (Chg.of_below hb2) (fun c e => e.elim) (fun c e => by by_cases h : c < w2.heap.size; exact .inl ⟨e.1, h⟩; exact .inr (by omega)) (fun c e => ⟨e.1, by have := e.2; omega⟩) (fun c e => e.2), h2.wide hR (fun c e => ⟨by have := e.1; omega, e.2⟩) (fun c e => e.2), rfl, rfl, fun c e e' => ?_⟩
  have := (h1.fpx e).2
  have := (h2.fpx e').1
  omega
theorem KK.do {B N : Nat} {w : World} {k1 k2 : Nat} {s1 s2 : Ks} (h : KK B N w k1 k2 s1 s2) (hB : B ≤ w.heap.size) {K : Nat → Prop} {a : Option Addr} {n : Nat} (c : Nat) {L : List Opv} (hs : SeesOp K w a n L) (hK : ∀ c, K c → c < B ∨ N ≤ c) (hL : ∀ o ∈ L, o.Ok) (hn : n ≤ 9223372036854775807) :
    Calls Tryz.prog 15 #[.pointer (some ⟨k1, 0, none⟩), .slice a n c] w fun e w' => e = .returned (.tuple #[.int .i64 (doN s1 L : Int), .int .i64 (doE s1 L)]) ∧ KK B N w' k1 k2 (doS s1 L) s2 ∧ Below B w w' := by
  obtain ⟨b1, b2, h1, h2, rfl, e2, hd⟩ := h
  have hne : ∀ x y, K x → fpK b1 y → x ≠ y := fun x y hx hy e => by
    have := h1.fpx hy
    have := hK x hx
    omega
  have ht : ∀ x, (x = b1.tb ∨ x = b1.bm ∨ x = b1.fm) → fpK b1 x := fun x e => by unfold fpK; rcases e with e | e | e <;> simp [e]
  refine (do_any w c h1 hs (fun c hc => ⟨hne c _ hc (ht _ (.inl rfl)), hne c _ hc (ht _ (.inr (.inl rfl))), hne c _ hc (ht _ (.inr (.inr rfl)))⟩) hL hn).mono ?_
  rintro e w' ⟨he, hk, hc⟩
  exact ⟨he, ⟨b1, b2, hk, h2.chg hc (fun c hz _ => ⟨h1.fpx (ht c hz), hd c (ht c hz)⟩), rfl, e2, hd⟩, hc.keeps.below hB fun c hz => (h1.fpx (ht c hz)).1⟩
theorem KK.dump {B N : Nat} {w : World} {k1 k2 : Nat} {s1 s2 : Ks} (h : KK B N w k1 k2 s1 s2) : Calls Tryz.prog 17 #[.pointer (some ⟨k1, 0, none⟩)] w fun e w' => ∃ v, e = .returned v ∧ Dmp w w' s1 v := by
  obtain ⟨b1, b2, h1, h2, rfl, e2, hd⟩ := h
  exact dump_any w h1
theorem Dmp.bel {w w' : World} {s : Ks} {v : Value} (h : Dmp w w' s v) : Below w.heap.size w w' := by
  obtain ⟨_, _, _, _, _, _, _, h⟩ := h
  exact h
/-- Two Dumps of the same. -/
theorem dumps_two {w w1 w2 : World} {s : Ks} {v1 v2 : Value} (hok : s.Ok) (h1 : Dmp w w1 s v1) (h2 : Dmp w1 w2 s v2) : Calls Tryz.prog 19 #[v1, v2] w2 fun e w' => e = .returned (.bool true) ∧ Below w2.heap.size w2 w' := by
  obtain ⟨x1, y1, z1, rfl, ⟨A1, o1, s1⟩, ⟨A2, o2, s2⟩, ⟨A3, o3, s3⟩, _⟩ := h1
  obtain ⟨x2, y2, z2, rfl, ⟨C1, p1, t1⟩, ⟨C2, p2, t2⟩, ⟨C3, p3, t3⟩, hb3⟩ := h2
  obtain rfl : C1 = A1 := srtK_eq t1 s1
  obtain rfl : C2 = A2 := srtK_eq t2 s2
  obtain rfl : C3 = A3 := srtK_eq t3 s3
  exact dumps_any w2 x1 y1 z1 x2 y2 z2 C1 C2 C3 ((own_R.2 (owns_below o1 hb3)).low (Nat.zero_le _)) ((own_R.2 p1).low (Nat.zero_le _)) ((own_N.2 (owns_below o2 hb3)).low (Nat.zero_le _)) ((own_N.2 p2).low (Nat.zero_le _)) ((own_F.2 (owns_below o3 hb3)).low (Nat.zero_le _)) ((own_F.2 p3).low (Nat.zero_le _)) (srt_le hok.rn t1 (Nat.le_trans hok.rl.1 hok.rl.2)) (srt_le hok.nn t2 (Nat.le_trans hok.nl.1 hok.nl.2)) (srt_le hok.fn t3 (Nat.le_trans hok.fl.1 hok.fl.2))

theorem sees_one {w : World} {g : Nat} {o : Opv} (h : w.heap[g]? = some (.cells o.cells 57)) : SeesOp (fun c => c = g) w (some ⟨g, 0, none⟩) 1 [o] := by
  refine ⟨rfl, .inr ⟨g, 0, rfl, rfl, (Array.getElem?_eq_some_iff.1 h).1, fun j x hx i v hv => ?_⟩⟩
  rw [cell_of_row _ _ _ _ _ _ h]
  match j, hx with
  | 0, hx =>
    obtain rfl := Option.some.inj hx
    rw [show 0 + 0 * 19 + i = i by omega, ← Array.getElem?_toList]
    exact hv
  | j + 1, hx => cases hx
theorem build1O (o : Opv) (u : World) : (Instr.buildSlice 35 1 #[(0, .agg o.cells)]).run Tryz.prog u = .ok (.slice (some ⟨u.heap.size, 0, none⟩) 1 1) (u.alloc (.cells o.cells 57)) := by kernel_rfl
/-- One op is done. -/
theorem KK.one {B N : Nat} {w w' : World} {k1 k2 : Nat} {s1 s2 : Ks} {o : Opv} (h : KK B N w k1 k2 s1 s2) (hB : B ≤ w.heap.size) (hN : N ≤ w.heap.size) (hw : w' = w.alloc (.cells o.cells 57)) (ho : o.Ok) :
    Calls Tryz.prog 15 #[.pointer (some ⟨k1, 0, none⟩), .slice (some ⟨w.heap.size, 0, none⟩) 1 1] w' fun e w'' => e = .returned (.tuple #[.int .i64 ((if oneE s1 o = 0 then 1 else 0 : Nat) : Int), .int .i64 (oneE s1 o)]) ∧ KK B N w'' k1 k2 (oneS s1 o) s2 ∧ Below B w w'' := by
  have hb : Below w.heap.size w w' := by rw [hw]; exact (Below.refl _ _).alloc (Nat.le_refl _) _
  have hr : w'.heap[w.heap.size]? = some (.cells o.cells 57) := by rw [hw]; exact heap_alloc_new w _
  obtain ⟨d1, d2, d3⟩ := do_one s1 o
  refine ((h.below hb).do (Nat.le_trans hB hb.size) 1 (sees_one hr) (fun c hc => .inr (by rw [hc]; exact hN)) (fun x hx => by rw [List.mem_singleton] at hx; rw [hx]; exact ho) (by decide)).mono ?_
  rintro e w'' ⟨he, hk, hb2⟩
  rw [d1, d2] at he
  rw [d3] at hk
  exact ⟨he, hk, (hb.mono hB).trans hb2⟩

/-- Two kernels apart, as a walk holds them. -/
structure K2 (w0 : World) (N : Nat) (w : World) (k1 k2 : Nat) (s1 s2 : Ks) : Prop where
  kk : KK w0.heap.size N w k1 k2 s1 s2
  bel : Below w0.heap.size w0 w
  hi : N ≤ w.heap.size
theorem K2.swap {w0 : World} {N : Nat} {w : World} {k1 k2 : Nat} {s1 s2 : Ks} (h : K2 w0 N w k1 k2 s1 s2) : K2 w0 N w k2 k1 s2 s1 := ⟨h.kk.swap, h.bel, h.hi⟩
theorem K2.below {w0 : World} {N : Nat} {w w' : World} {k1 k2 : Nat} {s1 s2 : Ks} (h : K2 w0 N w k1 k2 s1 s2) (hb : Below w.heap.size w w') : K2 w0 N w' k1 k2 s1 s2 := ⟨h.kk.below hb, h.bel.trans (hb.mono h.bel.size), Nat.le_trans h.hi hb.size⟩
theorem K2.one {w0 : World} {N : Nat} {w w' : World} {k1 k2 : Nat} {s1 s2 : Ks} {o : Opv} (h : K2 w0 N w k1 k2 s1 s2) (hw : w' = w.alloc (.cells o.cells 57)) (ho : o.Ok) :
    Calls Tryz.prog 15 #[.pointer (some ⟨k1, 0, none⟩), .slice (some ⟨w.heap.size, 0, none⟩) 1 1] w' fun e w'' => e = .returned (.tuple #[.int .i64 ((if oneE s1 o = 0 then 1 else 0 : Nat) : Int), .int .i64 (oneE s1 o)]) ∧ K2 w0 N w'' k1 k2 (oneS s1 o) s2 := by
  refine (h.kk.one h.bel.size h.hi hw ho).mono ?_
  rintro e w'' ⟨he, hk, hb⟩
  exact ⟨he, hk, h.bel.trans hb, Nat.le_trans h.hi hb.size⟩
theorem K2.do {w0 : World} {N : Nat} {w : World} {k1 k2 : Nat} {s1 s2 : Ks} (h : K2 w0 N w k1 k2 s1 s2) {K : Nat → Prop} {a : Option Addr} {n : Nat} (c : Nat) {L : List Opv} (hs : SeesOp K w a n L) (hK : ∀ c, K c → c < w0.heap.size ∨ N ≤ c) (hL : ∀ o ∈ L, o.Ok) (hn : n ≤ 9223372036854775807) :
    Calls Tryz.prog 15 #[.pointer (some ⟨k1, 0, none⟩), .slice a n c] w fun e w' => e = .returned (.tuple #[.int .i64 (doN s1 L : Int), .int .i64 (doE s1 L)]) ∧ K2 w0 N w' k1 k2 (doS s1 L) s2 := by
  refine (h.kk.do h.bel.size c hs hK hL hn).mono ?_
  rintro e w'' ⟨he, hk, hb⟩
  exact ⟨he, hk, h.bel.trans hb, Nat.le_trans h.hi hb.size⟩

/-- One kernel, as a walk holds it. -/
structure K1 (w0 : World) (N : Nat) (w : World) (k : Nat) (s : Ks) : Prop where
  at_ : ∃ b, KAt w (fun c => w0.heap.size ≤ c ∧ c < N) b s ∧ b.kb = k
  bel : Below w0.heap.size w0 w
  hi : N ≤ w.heap.size
theorem K1.ok {w0 : World} {N : Nat} {w : World} {k : Nat} {s : Ks} (h : K1 w0 N w k s) : s.Ok := by
  obtain ⟨b, h1, _⟩ := h.at_
  exact h1.ok
theorem K1.below {w0 : World} {N : Nat} {w w' : World} {k : Nat} {s : Ks} (h : K1 w0 N w k s) (hb : Below w.heap.size w w') : K1 w0 N w' k s := by
  obtain ⟨b, h1, e1⟩ := h.at_
  exact ⟨⟨b, h1.below hb, e1⟩, h.bel.trans (hb.mono h.bel.size), Nat.le_trans h.hi hb.size⟩
theorem K1.do {w0 : World} {N : Nat} {w : World} {k : Nat} {s : Ks} (h : K1 w0 N w k s) {K : Nat → Prop} {a : Option Addr} {n : Nat} (c : Nat) {L : List Opv} (hs : SeesOp K w a n L) (hK : ∀ c, K c → c < w0.heap.size ∨ N ≤ c) (hL : ∀ o ∈ L, o.Ok) (hn : n ≤ 9223372036854775807) :
    Calls Tryz.prog 15 #[.pointer (some ⟨k, 0, none⟩), .slice a n c] w fun e w' => e = .returned (.tuple #[.int .i64 (doN s L : Int), .int .i64 (doE s L)]) ∧ K1 w0 N w' k (doS s L) ∧ (∀ c, c < w.heap.size → (c < w0.heap.size ∨ N ≤ c) → w'.heap[c]? = w.heap[c]?) := by
  obtain ⟨⟨b1, h1, rfl⟩, hb, hi⟩ := h
  have hne : ∀ x y, K x → fpK b1 y → x ≠ y := fun x y hx hy e => by
    have := h1.fpx hy
    have := hK x hx
    omega
  have ht : ∀ x, (x = b1.tb ∨ x = b1.bm ∨ x = b1.fm) → fpK b1 x := fun x e => by unfold fpK; rcases e with e | e | e <;> simp [e]
  refine (do_any w c h1 hs (fun c hc => ⟨hne c _ hc (ht _ (.inl rfl)), hne c _ hc (ht _ (.inr (.inl rfl))), hne c _ hc (ht _ (.inr (.inr rfl)))⟩) hL hn).mono ?_
  rintro e w' ⟨he, hk, hc⟩
  exact ⟨he, ⟨⟨b1, hk, rfl⟩, hb.trans (hc.keeps.below hb.size fun c hz => (h1.fpx (ht c hz)).1), Nat.le_trans hi hc.size⟩, fun c hl hn => hc.block c hl fun hz => by have := h1.fpx (ht c hz); omega⟩
theorem K1.one {w0 : World} {N : Nat} {w w' : World} {k : Nat} {s : Ks} {o : Opv} (h : K1 w0 N w k s) (hw : w' = w.alloc (.cells o.cells 57)) (ho : o.Ok) :
    Calls Tryz.prog 15 #[.pointer (some ⟨k, 0, none⟩), .slice (some ⟨w.heap.size, 0, none⟩) 1 1] w' fun e w'' => e = .returned (.tuple #[.int .i64 ((if oneE s o = 0 then 1 else 0 : Nat) : Int), .int .i64 (oneE s o)]) ∧ K1 w0 N w'' k (oneS s o) ∧ (∀ c, c < w.heap.size → (c < w0.heap.size ∨ N ≤ c) → w''.heap[c]? = w.heap[c]?) := by
  have hb : Below w.heap.size w w' := by rw [hw]; exact (Below.refl _ _).alloc (Nat.le_refl _) _
  have hr : w'.heap[w.heap.size]? = some (.cells o.cells 57) := by rw [hw]; exact heap_alloc_new w _
  obtain ⟨d1, d2, d3⟩ := do_one s o
  refine ((h.below hb).do 1 (sees_one hr) (fun c hc => .inr (by rw [hc]; exact h.hi)) (fun x hx => by rw [List.mem_singleton] at hx; rw [hx]; exact ho) (by decide)).mono ?_
  rintro e w'' ⟨he, hk, hx⟩
  rw [d1, d2] at he
  rw [d3] at hk
  exact ⟨he, hk, fun c hl hn => (hx c (Nat.lt_of_lt_of_le hl hb.size) hn).trans (hb.block c hl)⟩
theorem K1.dump {w0 : World} {N : Nat} {w : World} {k : Nat} {s : Ks} (h : K1 w0 N w k s) : Calls Tryz.prog 17 #[.pointer (some ⟨k, 0, none⟩)] w fun e w' => ∃ v, e = .returned v ∧ Dmp w w' s v := by
  obtain ⟨b1, h1, rfl⟩ := h.at_
  exact dump_any w h1
theorem K1.new {w1 w2 : World} {b : Bks} {s : Ks} (h1 : KAt w2 (fun c => w1.heap.size ≤ c ∧ c < w2.heap.size) b s) (hb1 : Below w1.heap.size w1 w2) : K1 w1 w2.heap.size w2 b.kb s := ⟨⟨b, h1, rfl⟩, hb1, Nat.le_refl _⟩

section
variable {H : Type} {enc : TypeId × Value → H} {W : World}
theorem open_ps {base : Nat} {v : Value} {d : DataW H} {ps : List MemPlace} (hval : Value.okWide Tryz.prog W .any base 35 v) (h : DataW.Trod enc Tryz.prog W 0 (fun _ => true) true 35 v d ps) :
    ∃ a n c L, v = .slice a n c ∧ SeesOp (fun k => k < W.heap.size) W a n L ∧ (∀ o ∈ L, o.Ok) ∧ n ≤ 9223372036854775807 := by
  obtain ⟨a0, len, cap, rfl⟩ := okWide_slice uOps hval
  obtain ⟨fuel, hf⟩ := h
  obtain ⟨a, n, c, L, h1, h2, h3, h4⟩ := open_ops hf
  simp [Value.cells] at h1
  obtain ⟨rfl, rfl, rfl⟩ := h1
  exact ⟨_, _, _, L, rfl, h2, h3, h4⟩
end
end Go.Proofs.YtpdokaoholifkabGreat.Rt
