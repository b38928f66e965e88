/-
  A pool that is used, and an own list beside it.
-/
import Derived.Test.YtahoileampdnkaaMI
namespace Go.Proofs.Ytahoileampdnkaa
open Go.ChangeShapes Go.WideShapes Go.ChangeAt Go.RowKit Ru N Tri
set_option maxHeartbeats 1000000
set_option maxRecDepth 100000

theorem cnt_congr {ks ts ks' ts' : List R} {a b : Nat} (h : ∀ x, a ≤ x → x < b → ((Mem ks x ∨ Mem ts x) ↔ (Mem ks' x ∨ Mem ts' x))) : cnt ks ts a b = cnt ks' ts' a b := by
  unfold cnt
  refine List.countP_congr fun x hx => ?_
  rw [List.mem_range'_1] at hx
  have := h x hx.1 (by omega)
  rw [← memB_iff, ← memB_iff, ← memB_iff, ← memB_iff, ← Bool.or_eq_true, ← Bool.or_eq_true] at this
  simp only [Bool.not_eq_true', ← Bool.not_eq_true]
  rw [this]

theorem cnt_one {ks ts ts' : List R} {lo hi a : Nat} (h1 : lo ≤ a) (h2 : a ≤ hi) (h3 : ¬ Mem ks a) (h4 : ¬ Mem ts a) (h5 : ∀ m, Mem ts' m ↔ m = a ∨ Mem ts m) : cnt ks ts lo (hi + 1) = cnt ks ts' lo (hi + 1) + 1 := by
  rw [cnt_add ks ts h1 (show a ≤ hi + 1 by omega), cnt_add ks ts (show a ≤ a + 1 by omega) (show a + 1 ≤ hi + 1 by omega), cnt_add ks ts' h1 (show a ≤ hi + 1 by omega), cnt_add ks ts' (show a ≤ a + 1 by omega) (show a + 1 ≤ hi + 1 by omega)]
  have e1 : cnt ks ts a (a + 1) = 1 := by
    rw [cnt_free (fun x k1 k2 => by have : x = a := by omega
                                    subst this; exact ⟨h3, h4⟩)]
    omega
  have e2 : cnt ks ts' a (a + 1) = 0 := cnt_used fun x k1 k2 => by
    have : x = a := by omega
    subst this; exact .inr ((h5 x).2 (.inl rfl))
  have e3 : cnt ks ts lo a = cnt ks ts' lo a := cnt_congr fun x k1 k2 => by
    rw [h5 x]
    constructor
    · rintro (h | h)
      · exact .inl h
      · exact .inr (.inr h)
    · rintro (h | h | h)
      · exact .inl h
      · omega
      · exact .inr h
  have e4 : cnt ks ts (a + 1) (hi + 1) = cnt ks ts' (a + 1) (hi + 1) := cnt_congr fun x k1 k2 => by
    rw [h5 x]
    constructor
    · rintro (h | h)
      · exact .inl h
      · exact .inr (.inr h)
    · rintro (h | h | h)
      · exact .inl h
      · omega
      · exact .inr h
  rw [e1, e2, e3, e4]
  omega

theorem num_adr (sub a : Nat) : num sub (adr sub a) = a := by
  unfold num adr
  exact Nat.mul_div_cancel _ (Nat.two_pow_pos _)
theorem alg_adr (sub a : Nat) : alg sub (adr sub a) (sub : Int) = true := by
  unfold alg adr
  rw [decide_eq_true_eq]
  exact ⟨rfl, Nat.mul_mod_left _ _⟩
theorem alg_back {sub x : Nat} {y : Int} (h : alg sub x y = true) : y = (sub : Int) ∧ adr sub (num sub x) = x := by
  unfold alg at h
  rw [decide_eq_true_eq] at h
  refine ⟨h.1, ?_⟩
  unfold adr num
  exact Nat.div_mul_cancel (Nat.dvd_of_mod_eq_zero h.2)

theorem OwnP.keeps {S : Nat → Prop} {w w' : World} {B : Nat} {v : Value} {L : List (Nat × Int)} (h : OwnP w B v L) (hb : Keeps S w w') (hn : ∀ k, v.ownBlock = some k → ¬ S k) : OwnP w' B v L := by
  refine ⟨h.1, ?_⟩
  rcases h.2 with hn | ⟨g, cap, cur, rfl, hbb, hg, rest⟩
  · exact .inl hn
  · exact .inr ⟨g, cap, cur, rfl, hbb, (hb.block g (Array.getElem?_eq_some_iff.1 hg).1 (hn g rfl)).trans hg, rest⟩

theorem ownP_ne {w : World} {B pb : Nat} {v : Value} {L : List (Nat × Int)} {cs : Array Value} (h : OwnP w B v L) (hp : w.heap[pb]? = some (.cells cs 68 (0, 0))) {k : Nat} (hk : v.ownBlock = some k) : k ≠ pb := by
  intro e
  rcases h.2 with ⟨rfl, _⟩ | ⟨g', cap', cur', rfl, _, hgg, _⟩
  · cases hk
  · simp [Value.ownBlock] at hk
    rw [hk, e, hp] at hgg
    simp at hgg

theorem ownP_ne_run {w : World} {B B' : Nat} {v v' : Value} {L : List (Nat × Int)} {rs : List R} (h : OwnP w B v L) (h' : OwnR w B' v' rs) {k : Nat} (hk : v.ownBlock = some k) : v'.ownBlock ≠ some k := by
  intro e
  rcases h.2 with ⟨rfl, _⟩ | ⟨g', cap', cur', rfl, _, hgg, _⟩
  · cases hk
  · rcases h'.2 with ⟨rfl, _⟩ | ⟨g2, cap2, cur2, rfl, _, hg2, _⟩
    · cases e
    · simp [Value.ownBlock] at hk e
      rw [hk] at hgg
      rw [e, hgg] at hg2
      simp at hg2

/-- A pool that is used, all of it new since w0. -/
structure Rm (w0 : World) (pb sub lo hi : Nat) (ks : List R) (u : World) (vk vt : Value) (ts : List R) : Prop where
  pool : PoolAt u pb vk vt sub lo hi ks ts
  new : w0.heap.size ≤ pb
  kn : ∀ g, vk.ownBlock = some g → w0.heap.size ≤ g
  tn : ∀ g, vt.ownBlock = some g → w0.heap.size ≤ g
  be : Below w0.heap.size w0 u

theorem Rm.below {w0 u u' : World} {pb sub lo hi : Nat} {ks ts : List R} {vk vt : Value} (h : Rm w0 pb sub lo hi ks u vk vt ts) (hb : Below u.heap.size u u') : Rm w0 pb sub lo hi ks u' vk vt ts :=
  ⟨h.pool.below hb, h.new, h.kn, h.tn, h.be.trans (hb.mono h.be.size)⟩

theorem Rm.turned {w0 u u' : World} {pb sub lo hi : Nat} {ks ts ts' : List R} {vk vt vt' : Value} (h : Rm w0 pb sub lo hi ks u vk vt ts) (ht : Turned pb vk vt sub lo hi ks u u' vt' ts') : Rm w0 pb sub lo hi ks u' vk vt' ts' := by
  refine ⟨ht.pool, h.new, h.kn, fun g hg => ?_, Turned.below h.new h.tn h.be ht⟩
  rcases ht.new with h1 | ⟨g', h1, h2⟩
  · exact h.tn g (h1 ▸ hg)
  · rw [hg] at h1
    simp at h1
    subst h1
    exact Nat.le_trans h.be.size h2

/-- And an own list. -/
def Rl (w0 : World) (pb sub lo hi : Nat) (ks ts : List R) (vg : Value) (G : List (Nat × Int)) (u : World) : Prop :=
  ∃ vk vt, Rm w0 pb sub lo hi ks u vk vt ts ∧ OwnP u w0.heap.size vg G

section
variable {w0 u : World} {pb sub lo hi : Nat} {ks ts : List R} {vg : Value} {G : List (Nat × Int)}

theorem Rl.be (h : Rl w0 pb sub lo hi ks ts vg G u) : Below w0.heap.size w0 u := by
  obtain ⟨vk, vt, h1, -⟩ := h; exact h1.be
theorem Rl.below {u' : World} (h : Rl w0 pb sub lo hi ks ts vg G u) (hb : Below u.heap.size u u') : Rl w0 pb sub lo hi ks ts vg G u' := by
  obtain ⟨vk, vt, h1, h2⟩ := h
  exact ⟨vk, vt, h1.below hb, h2.below hb⟩
theorem Rl.sees (h : Rl w0 pb sub lo hi ks ts vg G u) : Sees u vg G := by
  obtain ⟨vk, vt, h1, h2⟩ := h; exact h2.sees
theorem Rl.facts (h : Rl w0 pb sub lo hi ks ts vg G u) : Runs ks ∧ Runs ts ∧ sub ≤ 32 ∧ hi < 4294967296 ∧ lo ≤ hi ∧ adr sub hi < 4294967296 ∧ (∀ n, Mem ks n → adr sub n < 4294967296) ∧ ∀ n, Mem ts n → adr sub n < 4294967296 := by
  obtain ⟨vk, vt, h1, h2⟩ := h
  exact ⟨h1.pool.rk, h1.pool.rt, h1.pool.hs, h1.pool.hh, h1.pool.lh, h1.pool.ah, h1.pool.ak, h1.pool.av⟩

theorem Rl.turned {vk vt vt' : Value} {ts' : List R} {u' : World} (h1 : Rm w0 pb sub lo hi ks u vk vt ts) (h2 : OwnP u w0.heap.size vg G) (ht : Turned pb vk vt sub lo hi ks u u' vt' ts') : Rl w0 pb sub lo hi ks ts' vg G u' := by
  refine ⟨vk, vt', h1.turned ht, h2.keeps ht.keeps fun k hk => ?_⟩
  rintro (e | e)
  · exact ownP_ne h2 h1.pool.row hk e
  · exact ownP_ne_run h2 h1.pool.ot hk e

theorem Rl.append (ty : TypeId) (h : Rl w0 pb sub lo hi ks ts vg G u) (v : Value) (L : List (Nat × Int)) (hv : Sees u v L) (hbig : (G.length + L.length) * 16 ≤ 140737488355328) :
    ∃ v' u', (Builtin.append_ #[26, 26] ty #[vg, v]).run Try.prog u = .ok v' u' ∧ Rl w0 pb sub lo hi ks ts v' (G ++ L) u' := by
  obtain ⟨vk, vt, h1, h2⟩ := h
  obtain ⟨v', u', hr, ho, hg⟩ := append_pref u ty w0.heap.size vg v G L h2 hv h1.be.size hbig
  refine ⟨v', u', hr, vk, vt, ⟨?_, h1.new, h1.kn, h1.tn, ?_⟩, ho⟩
  · refine h1.pool.keeps (Keeps.grown (S := fun k => vg.ownBlock = some k) hg (fun k hk => hk)) (fun e => ownP_ne h2 h1.pool.row e rfl) (fun k hk e => ownP_ne_run h2 h1.pool.ok e hk) (fun k hk e => ownP_ne_run h2 h1.pool.ot e hk)
  · refine ⟨hg.os.trans h1.be.os, hg.tape.trans h1.be.tape, hg.output.trans h1.be.output, Nat.le_trans h1.be.size hg.size, fun k hk => ?_⟩
    refine (hg.block k (Nat.lt_of_lt_of_le hk h1.be.size) fun e => ?_).trans (h1.be.block k hk)
    have := (World.ownsRow.lt h2 k e.symm).1
    omega

theorem Rl.take (h : Rl w0 pb sub lo hi ks ts vg G u) : Calls Try.prog 14 #[.pointer (some ⟨pb, 0, none⟩)] u fun e u' =>
    (∃ (a : Nat) (ts' : List R), e = .returned (.tuple #[.agg #[.int .u32 ((adr sub a : Nat) : Int), .int .i64 (sub : Int)], .int .i64 0]) ∧ Hid (lo ≤ a ∧ a ≤ hi ∧ ¬ Mem ks a ∧ ¬ Mem ts a ∧ (∀ x, lo ≤ x → x < a → Mem ks x ∨ Mem ts x) ∧ ∀ m, Mem ts' m ↔ m = a ∨ Mem ts m) ∧ Hid (Rl w0 pb sub lo hi ks ts' vg G u')) ∨
    (e = .returned (.tuple #[.agg #[.int .u32 0, .int .i64 0], .int .i64 4]) ∧ Hid (∀ x, lo ≤ x → x ≤ hi → Mem ks x ∨ Mem ts x) ∧ Hid (Rl w0 pb sub lo hi ks ts vg G u')) := by
  obtain ⟨vk, vt, h1, h2⟩ := h
  refine (take_any pb sub lo hi vk vt ks ts u h1.pool).mono ?_
  rintro e u' (⟨a, vt', ts', he, k1, k2, k3, k4, k5, ht, k6⟩ | ⟨he, k1, hb⟩)
  · exact .inl ⟨a, ts', he, ⟨k1, k2, k3, k4, k5, k6⟩, Rl.turned h1 h2 ht⟩
  · exact .inr ⟨he, k1, vk, vt, h1.below hb, h2.below hb⟩

/-- What Claim answers. -/
def clE (sub lo hi x : Nat) (y : Int) (ks ts : List R) (c : Int) : Prop :=
  (alg sub x y = false ∧ c = 100) ∨ (alg sub x y = true ∧ ¬ (lo ≤ num sub x ∧ num sub x ≤ hi) ∧ ¬ Mem ks (num sub x) ∧ c = 101) ∨ (alg sub x y = true ∧ ((lo ≤ num sub x ∧ num sub x ≤ hi) ∨ Mem ks (num sub x)) ∧ Mem ts (num sub x) ∧ c = 102) ∨ (alg sub x y = true ∧ ((lo ≤ num sub x ∧ num sub x ≤ hi) ∨ Mem ks (num sub x)) ∧ ¬ Mem ts (num sub x) ∧ c = 0)

theorem Rl.claim (h : Rl w0 pb sub lo hi ks ts vg G u) (x : Nat) (y : Int) (hx : x < 4294967296) : Calls Try.prog 12 #[.pointer (some ⟨pb, 0, none⟩), .agg #[.int .u32 (x : Int), .int .i64 y]] u fun e u' =>
    ∃ (c : Int) (ts' : List R), e = .returned (.int .i64 c) ∧ Hid (clE sub lo hi x y ks ts c) ∧ Hid ((c ≠ 0 ∧ ts' = ts) ∨ (c = 0 ∧ ∀ m, Mem ts' m ↔ m = num sub x ∨ Mem ts m)) ∧ Hid (Rl w0 pb sub lo hi ks ts' vg G u') := by
  obtain ⟨vk, vt, h1, h2⟩ := h
  refine (claim_any pb sub lo hi x y vk vt ks ts u h1.pool hx).mono ?_
  rintro e u' (⟨k1, he, hb⟩ | ⟨k1, k2, k3, he, hb⟩ | ⟨k1, k2, k3, he, hb⟩ | ⟨k1, k2, k3, he, vt', ts', ht, k4⟩)
  · exact ⟨100, ts, he, .inl ⟨k1, rfl⟩, .inl ⟨by decide, rfl⟩, vk, vt, h1.below hb, h2.below hb⟩
  · exact ⟨101, ts, he, .inr (.inl ⟨k1, k2, k3, rfl⟩), .inl ⟨by decide, rfl⟩, vk, vt, h1.below hb, h2.below hb⟩
  · exact ⟨102, ts, he, .inr (.inr (.inl ⟨k1, k2, k3, rfl⟩)), .inl ⟨by decide, rfl⟩, vk, vt, h1.below hb, h2.below hb⟩
  · exact ⟨0, ts', he, .inr (.inr (.inr ⟨k1, k2, k3, rfl⟩)), .inr ⟨rfl, k4⟩, Rl.turned h1 h2 ht⟩

theorem Rl.free (h : Rl w0 pb sub lo hi ks ts vg G u) (x : Nat) (y : Int) (hx : x < 4294967296) : Calls Try.prog 15 #[.pointer (some ⟨pb, 0, none⟩), .agg #[.int .u32 (x : Int), .int .i64 y]] u fun e u' =>
    ∃ (c : Int) (ts' : List R), e = .returned (.int .i64 c) ∧ Hid (((alg sub x y = false ∨ ¬ Mem ts (num sub x)) ∧ c = 3 ∧ ts' = ts) ∨ (alg sub x y = true ∧ Mem ts (num sub x) ∧ c = 0 ∧ ∀ m, Mem ts' m ↔ m ≠ num sub x ∧ Mem ts m)) ∧ Hid (Rl w0 pb sub lo hi ks ts' vg G u') := by
  obtain ⟨vk, vt, h1, h2⟩ := h
  refine (free_any pb sub lo hi x y vk vt ks ts u h1.pool hx).mono ?_
  rintro e u' (⟨k1, he, hb⟩ | ⟨k1, k2, he, vt', ts', ht, k4⟩)
  · exact ⟨3, ts, he, .inl ⟨k1, rfl, rfl⟩, vk, vt, h1.below hb, h2.below hb⟩
  · exact ⟨0, ts', he, .inr ⟨k1, k2, rfl, k4⟩, Rl.turned h1 h2 ht⟩

theorem Rl.room (h : Rl w0 pb sub lo hi ks ts vg G u) : Calls Try.prog 13 #[.pointer (some ⟨pb, 0, none⟩)] u fun e u' =>
    e = .returned (.int .i64 ((cnt ks ts lo (hi + 1) : Nat) : Int)) ∧ Hid (Below u.heap.size u u') ∧ Hid (Rl w0 pb sub lo hi ks ts vg G u') := by
  obtain ⟨vk, vt, h1, h2⟩ := h
  refine (room_any pb sub lo hi vk vt ks ts u h1.pool).mono ?_
  rintro e u' ⟨he, hb⟩
  exact ⟨he, hb, vk, vt, h1.below hb, h2.below hb⟩

theorem Rl.of {sl : Nat} {vk : Value} {w : World} (h : Mk w pb sl lo hi u vk ks) : Rl w pb sl lo hi ks [] (.slice none 0 0) [] u :=
  ⟨vk, _, ⟨h.pool, h.new, h.vnew, (fun g hg => by cases hg), h.be⟩, ⟨rfl, .inl ⟨rfl, rfl⟩⟩⟩
end
end Go.Proofs.Ytahoileampdnkaa
