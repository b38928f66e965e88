/-
  Pairs of pools, each on blocks of its own.
-/
import Derived.Test.YtahoileampdnkaaHH
import Derived.Test.YtahoileampdnkaaMI
namespace Go.Proofs.Ytahoileampdnkaa
open Go.ChangeShapes Go.WideShapes Go.ChangeAt Go.RowKit Ru N Tri
set_option maxHeartbeats 1000000
set_option maxRecDepth 100000

/-- A pool and the reference's that hold the same, on the blocks F. -/
def Lv (q : Sp) (u : World) (pb rb : Nat) (F : Nat → Prop) : Prop :=
  ∃ (sub plo phi : Nat) (ks ts : List R) (vk vt vk' vt' : Value) (T : List Nat), PoolAt u pb vk vt sub plo phi ks ts ∧ RAt u rb q.x q.y sub q.lo q.hi vk' vt' (q.L.map (·.1)) T ∧ PR q.x q.y sub plo phi q.lo q.hi q.L ks ts T ∧
    ∀ k, F k ↔ (k = pb ∨ vk.ownBlock = some k ∨ vt.ownBlock = some k ∨ k = rb ∨ vk'.ownBlock = some k ∨ vt'.ownBlock = some k)

theorem row_kind {w : World} {B : Nat} {v : Value} {rs : List R} {k : Nat} (h : OwnR w B v rs) (hk : v.ownBlock = some k) : ∃ cs, w.heap[k]? = some (.cells cs 64 (0, 0)) := by
  rcases h.2 with ⟨rfl, _⟩ | ⟨g', cap', cur', rfl, _, hgg, _⟩
  · cases hk
  · simp [Value.ownBlock] at hk
    subst hk
    exact ⟨_, hgg⟩
theorem num_kind {w : World} {B : Nat} {v : Value} {A : List Nat} {k : Nat} (h : OwnN w B v A) (hk : v.ownBlock = some k) : ∃ cs, w.heap[k]? = some (.cells cs 3 (0, 0)) := by
  rcases h.2 with ⟨rfl, _⟩ | ⟨g', cap', cur', rfl, _, hgg, _⟩
  · cases hk
  · simp [Value.ownBlock] at hk
    subst hk
    exact ⟨_, hgg⟩

/-- What lies in such a block. -/
def Kd (t : TypeId) : Prop := t = 68 ∨ t = 64 ∨ t = 77 ∨ t = 3

section
variable {q : Sp} {u : World} {pb rb : Nat} {F : Nat → Prop}

theorem Lv.kind (h : Lv q u pb rb F) {k : Nat} (hk : F k) : ∃ cs t, Kd t ∧ u.heap[k]? = some (.cells cs t (0, 0)) := by
  obtain ⟨sub, plo, phi, ks, ts, vk, vt, vk', vt', T, h1, h2, h3, h4⟩ := h
  rcases (h4 k).1 hk with rfl | e | e | rfl | e | e
  · exact ⟨_, _, .inl rfl, h1.row⟩
  · obtain ⟨cs, h⟩ := row_kind h1.ok e; exact ⟨cs, _, .inr (.inl rfl), h⟩
  · obtain ⟨cs, h⟩ := row_kind h1.ot e; exact ⟨cs, _, .inr (.inl rfl), h⟩
  · exact ⟨_, _, .inr (.inr (.inl rfl)), h2.row⟩
  · obtain ⟨cs, h⟩ := num_kind h2.ok e; exact ⟨cs, _, .inr (.inr (.inr rfl)), h⟩
  · obtain ⟨cs, h⟩ := num_kind h2.ot e; exact ⟨cs, _, .inr (.inr (.inr rfl)), h⟩

theorem Lv.lt (h : Lv q u pb rb F) {k : Nat} (hk : F k) : k < u.heap.size := by
  obtain ⟨cs, t, -, h⟩ := h.kind hk
  exact (Array.getElem?_eq_some_iff.1 h).1

theorem Lv.keeps {S : Nat → Prop} {u' : World} (h : Lv q u pb rb F) (hk : Keeps S u u') (hn : ∀ k, F k → ¬ S k) : Lv q u' pb rb F := by
  obtain ⟨sub, plo, phi, ks, ts, vk, vt, vk', vt', T, h1, h2, h3, h4⟩ := h
  refine ⟨sub, plo, phi, ks, ts, vk, vt, vk', vt', T, h1.keeps hk ?_ ?_ ?_, h2.keeps hk ?_ ?_ ?_, h3, h4⟩
  · exact hn _ ((h4 _).2 (.inl rfl))
  · exact fun k e => hn k ((h4 k).2 (.inr (.inl e)))
  · exact fun k e => hn k ((h4 k).2 (.inr (.inr (.inl e))))
  · exact hn _ ((h4 _).2 (.inr (.inr (.inr (.inl rfl)))))
  · exact fun k e => hn k ((h4 k).2 (.inr (.inr (.inr (.inr (.inl e))))))
  · exact fun k e => hn k ((h4 k).2 (.inr (.inr (.inr (.inr (.inr e))))))

theorem Lv.plays (h : Lv q u pb rb F) (o : Stp) (ho : o.a < 4294967296) : Calls Try.prog 26 #[.pointer (some ⟨pb, 0, none⟩), .pointer (some ⟨rb, 0, none⟩), .agg o.cells] u fun e u' => e = .returned (.bool true) ∧ ∃ F', Lv q u' pb rb F' ∧ Keeps F u u' ∧ ∀ k, F' k → F k ∨ u.heap.size ≤ k := by
  obtain ⟨sub, plo, phi, ks, ts, vk, vt, vk', vt', T, h1, h2, h3, h4⟩ := h
  refine (plays_any o u pb rb q.x q.y sub plo phi q.lo q.hi q.L ks ts vk vt vk' vt' T h1 h2 h3 ho).mono ?_
  rintro e u' ⟨he, v2, v2', ts2, T2, hd⟩
  refine ⟨he, _, ⟨sub, plo, phi, ks, ts2, vk, v2, vk', v2', T2, hd.pool, hd.ref, hd.pr, fun k => Iff.rfl⟩, hd.ke.mono fun k _ hk => ?_, fun k hk => ?_⟩
  · rcases hk with rfl | e | rfl | e
    · exact (h4 _).2 (.inl rfl)
    · exact (h4 k).2 (.inr (.inr (.inl e)))
    · exact (h4 _).2 (.inr (.inr (.inr (.inl rfl))))
    · exact (h4 k).2 (.inr (.inr (.inr (.inr (.inr e)))))
  · rcases hk with rfl | e | e | rfl | e | e
    · exact .inl ((h4 _).2 (.inl rfl))
    · exact .inl ((h4 k).2 (.inr (.inl e)))
    · exact (hd.n1 k e).imp (fun h => (h4 k).2 (.inr (.inr (.inl h)))) id
    · exact .inl ((h4 _).2 (.inr (.inr (.inr (.inl rfl)))))
    · exact .inl ((h4 k).2 (.inr (.inr (.inr (.inr (.inl e))))))
    · exact (hd.n2 k e).imp (fun h => (h4 k).2 (.inr (.inr (.inr (.inr (.inr h)))))) id
end

/-- Both nil, or both there. -/
def Pst (q : Sp) (u : World) (pv rv : Option Addr) (F : Nat → Prop) : Prop :=
  (pv = none ∧ rv = none ∧ ∀ k, ¬ F k) ∨ ∃ pb rb, pv = some ⟨pb, 0, none⟩ ∧ rv = some ⟨rb, 0, none⟩ ∧ Lv q u pb rb F

theorem Pst.kind {q : Sp} {u : World} {pv rv : Option Addr} {F : Nat → Prop} (h : Pst q u pv rv F) {k : Nat} (hk : F k) : ∃ cs t, Kd t ∧ u.heap[k]? = some (.cells cs t (0, 0)) := by
  rcases h with ⟨-, -, h⟩ | ⟨pb, rb, -, -, h⟩
  · exact absurd hk (h k)
  · exact h.kind hk
theorem Pst.keeps {S : Nat → Prop} {q : Sp} {u u' : World} {pv rv : Option Addr} {F : Nat → Prop} (h : Pst q u pv rv F) (hk : Keeps S u u') (hn : ∀ k, F k → ¬ S k) : Pst q u' pv rv F := by
  rcases h with h | ⟨pb, rb, h1, h2, h⟩
  · exact .inl h
  · exact .inr ⟨pb, rb, h1, h2, h.keeps hk hn⟩

/-- What New of the program, and of the reference, leaves. -/
def NwP (q : Sp) (w : World) (pv : Option Addr) (w' : World) : Prop :=
  (newE q.x q.y q.s q.lo q.hi q.L ≠ 0 ∧ pv = none ∧ Below w.heap.size w w') ∨ (newE q.x q.y q.s q.lo q.hi q.L = 0 ∧ ∃ (pb sub : Nat) (vk : Value) (ks : List R), q.s = (sub : Int) ∧ pv = some ⟨pb, 0, none⟩ ∧ Mk w pb sub (num sub q.lo) (num sub q.hi) w' vk ks ∧ ∀ n, Mem ks n ↔ n ∈ q.L.map fun p => num sub p.1)
def NwR (q : Sp) (w : World) (rv : Option Addr) (w' : World) : Prop :=
  (newE q.x q.y q.s q.lo q.hi q.L ≠ 0 ∧ rv = none ∧ Below w.heap.size w w') ∨ (newE q.x q.y q.s q.lo q.hi q.L = 0 ∧ ∃ (rb sub : Nat) (vk : Value), q.s = (sub : Int) ∧ rv = some ⟨rb, 0, none⟩ ∧ RMk w rb q.x q.y sub q.lo q.hi w' vk (q.L.map (·.1)))

theorem NwP.of {q : Sp} {w : World} {e : Ending} {w' : World} (h : News w q.x q.y q.s q.lo q.hi q.L e w') : ∃ pv, e = .returned (.tuple #[.pointer pv, .int .i64 (newE q.x q.y q.s q.lo q.hi q.L)]) ∧ Hid (NwP q w pv w') := by
  rcases h with ⟨h1, rfl, h2⟩ | ⟨h1, pb, sub, vk, ks, h2, rfl, h3, h4⟩
  · exact ⟨none, rfl, .inl ⟨h1, rfl, h2⟩⟩
  · exact ⟨some ⟨pb, 0, none⟩, by rw [h1], .inr ⟨h1, pb, sub, vk, ks, h2, rfl, h3, h4⟩⟩
theorem NwR.of {q : Sp} {w : World} {e : Ending} {w' : World} (h : NewsR w q.x q.y q.s q.lo q.hi q.L e w') : ∃ pv, e = .returned (.tuple #[.pointer pv, .int .i64 (newE q.x q.y q.s q.lo q.hi q.L)]) ∧ Hid (NwR q w pv w') := by
  rcases h with ⟨h1, rfl, h2⟩ | ⟨h1, pb, sub, vk, h2, rfl, h3⟩
  · exact ⟨none, rfl, .inl ⟨h1, rfl, h2⟩⟩
  · exact ⟨some ⟨pb, 0, none⟩, by rw [h1], .inr ⟨h1, pb, sub, vk, h2, rfl, h3⟩⟩
theorem NwP.be {q : Sp} {w w' : World} {pv : Option Addr} (h : NwP q w pv w') : Below w.heap.size w w' := by
  rcases h with ⟨-, -, h⟩ | ⟨-, _, _, _, _, -, -, h, -⟩
  · exact h
  · exact h.be
theorem NwR.be {q : Sp} {w w' : World} {pv : Option Addr} (h : NwR q w pv w') : Below w.heap.size w w' := by
  rcases h with ⟨-, -, h⟩ | ⟨-, _, _, _, -, -, h⟩
  · exact h
  · exact h.be

theorem newE_nul {x lo hi : Nat} {y s : Int} {L : List (Nat × Int)} (h : newE x y s lo hi L = 0) : L.length ≤ 1024 ∧ ck x y s lo hi = 0 ∧ keE x y s.toNat [] L = 0 := by
  unfold newE at h
  split at h
  · cases h
  · split at h
    · rename_i h1 h2; exact absurd h h2
    · rename_i h1 h2
      exact ⟨by omega, by simpa using h2, h⟩

theorem adr_val {sub x : Nat} (h : valB x (sub : Int) = true) : adr sub (num sub x) = x := by
  unfold valB at h
  rw [decide_eq_true_eq, Int.toNat_natCast] at h
  unfold adr num
  exact Nat.div_mul_cancel (Nat.dvd_of_mod_eq_zero h.2.2)

theorem keE_in {x : Nat} {y : Int} {sub : Nat} : ∀ {L : List (Nat × Int)} {seen : List Nat}, keE x y sub seen L = 0 → ∀ p ∈ L, inN x y p.1 = true
  | [], _, _, p, hp => absurd hp (by simp)
  | p :: L, seen, h, q, hq => by
    unfold keE at h
    split at h
    · cases h
    · split at h
      · cases h
      · split at h
        · cases h
        · rename_i h1 h2 h3
          rcases List.mem_cons.1 hq with rfl | hq
          · simpa using h2
          · exact keE_in h q hq

theorem pair_new {q : Sp} {w1 w2 w3 : World} {pv rv : Option Addr} (hx : q.x < 4294967296) (hlo : q.lo < 4294967296) (hhi : q.hi < 4294967296) (hL : ∀ p ∈ q.L, p.1 < 4294967296) (h1 : NwP q w1 pv w2) (h2 : NwR q w2 rv w3) : ∃ F, Pst q w3 pv rv F ∧ ∀ k, F k → w1.heap.size ≤ k := by
  rcases h1 with ⟨a1, rfl, a3⟩ | ⟨a1, pb, sub, vk, ks, a2, rfl, a3, a4⟩
  · rcases h2 with ⟨b1, rfl, b3⟩ | ⟨b1, -⟩
    · exact ⟨fun _ => False, .inl ⟨rfl, rfl, fun _ h => h⟩, fun _ h => h.elim⟩
    · exact absurd b1 a1
  · rcases h2 with ⟨b1, -⟩ | ⟨b1, rb, sub', vk', b2, rfl, b3⟩
    · exact absurd a1 b1
    · obtain rfl : sub' = sub := by omega
      obtain ⟨c1, c2, c3⟩ := newE_nul a1
      rw [a2] at c2
      rw [a2, Int.toNat_natCast] at c3
      obtain ⟨d1, d2, d3, d4, d5, d6, d7, d8⟩ := ck_zero c2
      obtain ⟨e1, e2, -⟩ := keE_zero c3
      have hin : ∀ a, inN q.x q.y a = true ↔ q.x ≤ a ∧ a < q.x + 2 ^ (32 - q.y.toNat) := fun a => by unfold inN; rw [decide_eq_true_eq]
      refine ⟨_, .inr ⟨pb, rb, rfl, rfl, sub', num sub' q.lo, num sub' q.hi, ks, [], vk, .slice none 0 0, vk', .slice none 0 0, [], a3.pool.below b3.be, ⟨b3.row, b3.own, ⟨rfl, .inl ⟨rfl, rfl⟩⟩, ?_, a3.pool.hs, hlo, hhi, by rw [List.length_map]; exact c1, by simp, ?_, by simp⟩, ⟨adr_val d5, adr_val d6, d4, hx, d1, e1, e2, a4, ?_, keE_in c3, runs_nil, [], rfl, List.nodup_nil, fun m => ⟨fun h => absurd h (by simp), fun h => absurd h mem_nil⟩⟩, fun k => Iff.rfl⟩, ?_⟩
      · cases h : vk'.ownBlock with
        | none => exact .inl rfl
        | some g => exact .inr (by simp [Value.ownBlock])
      · intro n hn
        obtain ⟨p, hp, rfl⟩ := List.mem_map.1 hn
        exact hL p hp
      · intro a h1 h2
        have k1 := (hin _).1 d7
        have k2 := (hin _).1 d8
        exact (hin _).2 ⟨by omega, by omega⟩
      · have hb := a3.be.size
        rintro k (rfl | e | e | rfl | e | e)
        · exact a3.new
        · exact a3.vnew k e
        · cases e
        · exact Nat.le_trans hb b3.new
        · exact Nat.le_trans hb (b3.vnew k e)
        · cases e

/-- Three pairs. -/
def St3 (w0 : World) (qa qb qc : Sp) (p r q s x y : Option Addr) (u : World) : Prop :=
  ∃ F1 F2 F3, Pst qa u p r F1 ∧ Pst qb u q s F2 ∧ Pst qc u x y F3 ∧ (∀ k, F1 k → ¬ F2 k) ∧ (∀ k, F1 k → ¬ F3 k) ∧ (∀ k, F2 k → ¬ F3 k) ∧ (∀ k, F1 k ∨ F2 k ∨ F3 k → w0.heap.size ≤ k) ∧ Below w0.heap.size w0 u

/-- A step stays. -/
def KpO (u u' : World) : Prop := ∀ (b : Nat) (cs : Array Value), u.heap[b]? = some (.cells cs 46 (0, 0)) → u'.heap[b]? = some (.cells cs 46 (0, 0))

section
variable {w0 u : World} {qa qb qc : Sp} {p r q s x y : Option Addr}

theorem St3.be (h : St3 w0 qa qb qc p r q s x y u) : Below w0.heap.size w0 u := by
  obtain ⟨F1, F2, F3, -, -, -, -, -, -, -, h⟩ := h; exact h
theorem St3.swap12 (h : St3 w0 qa qb qc p r q s x y u) : St3 w0 qb qa qc q s p r x y u := by
  obtain ⟨F1, F2, F3, h1, h2, h3, h4, h5, h6, h7, h8⟩ := h
  exact ⟨F2, F1, F3, h2, h1, h3, fun k a b => h4 k b a, h6, h5, fun k hk => h7 k (by rcases hk with h | h | h; exact .inr (.inl h); exact .inl h; exact .inr (.inr h)), h8⟩
theorem St3.swap13 (h : St3 w0 qa qb qc p r q s x y u) : St3 w0 qc qb qa x y q s p r u := by
  obtain ⟨F1, F2, F3, h1, h2, h3, h4, h5, h6, h7, h8⟩ := h
  exact ⟨F3, F2, F1, h3, h2, h1, fun k a b => h6 k b a, fun k a b => h5 k b a, fun k a b => h4 k b a, fun k hk => h7 k (by rcases hk with h | h | h; exact .inr (.inr h); exact .inr (.inl h); exact .inl h), h8⟩
theorem St3.below {u' : World} (h : St3 w0 qa qb qc p r q s x y u) (hb : Below u.heap.size u u') : St3 w0 qa qb qc p r q s x y u' := by
  obtain ⟨F1, F2, F3, h1, h2, h3, h4, h5, h6, h7, h8⟩ := h
  have hk : Keeps (fun _ => False) u u' := Keeps.of hb
  exact ⟨F1, F2, F3, h1.keeps hk (fun _ _ h => h), h2.keeps hk (fun _ _ h => h), h3.keeps hk (fun _ _ h => h), h4, h5, h6, h7, h8.trans (hb.mono h8.size)⟩

/-- A block of prefixes is written. -/
theorem St3.write {u' : World} {g : Nat} {cs : Array Value} (h : St3 w0 qa qb qc p r q s x y u) (hg : u.heap[g]? = some (.cells cs 25 (0, 0))) (hg0 : w0.heap.size ≤ g) (hk : Keeps (fun k => k = g) u u') : St3 w0 qa qb qc p r q s x y u' := by
  obtain ⟨F1, F2, F3, h1, h2, h3, h4, h5, h6, h7, h8⟩ := h
  have hd : ∀ {q : Sp} {pv rv : Option Addr} {F : Nat → Prop}, Pst q u pv rv F → ∀ k, F k → ¬ k = g := fun hp k hk e => by
    obtain ⟨cs', t, ht, hh⟩ := hp.kind hk
    rw [e, hg] at hh
    simp at hh
    obtain ⟨-, rfl⟩ := hh
    rcases ht with h | h | h | h <;> cases h
  refine ⟨F1, F2, F3, h1.keeps hk (hd h1), h2.keeps hk (hd h2), h3.keeps hk (hd h3), h4, h5, h6, h7, ?_⟩
  exact ⟨hk.os.trans h8.os, hk.tape.trans h8.tape, hk.output.trans h8.output, Nat.le_trans h8.size hk.size, fun k hk1 => (hk.block k (Nat.lt_of_lt_of_le hk1 h8.size) (fun e => by omega)).trans (h8.block k hk1)⟩

theorem St3.play (h : St3 w0 qa qb qc p r q s x y u) (hr : r ≠ none) (o : Stp) (ho : o.a < 4294967296) : ∃ pb rb, p = some ⟨pb, 0, none⟩ ∧ r = some ⟨rb, 0, none⟩ ∧ Calls Try.prog 26 #[.pointer (some ⟨pb, 0, none⟩), .pointer (some ⟨rb, 0, none⟩), .agg o.cells] u fun e u' => e = .returned (.bool true) ∧ Hid (St3 w0 qa qb qc p r q s x y u' ∧ KpO u u') := by
  obtain ⟨F1, F2, F3, h1, h2, h3, h4, h5, h6, h7, h8⟩ := h
  rcases h1 with ⟨-, h, -⟩ | ⟨pb, rb, e1, e2, hl⟩
  · exact absurd h hr
  · refine ⟨pb, rb, e1, e2, (hl.plays o ho).mono ?_⟩
    rintro e u' ⟨he, F', hl', hk, hn⟩
    have hlt : ∀ {q : Sp} {pv rv : Option Addr} {F : Nat → Prop}, Pst q u pv rv F → ∀ k, F k → k < u.heap.size := fun hp k hk => by
      obtain ⟨cs, t, -, hh⟩ := hp.kind hk
      exact (Array.getElem?_eq_some_iff.1 hh).1
    refine ⟨he, ⟨F', F2, F3, .inr ⟨pb, rb, e1, e2, hl'⟩, h2.keeps hk (fun k a b => h4 k b a), h3.keeps hk (fun k a b => h5 k b a), fun k a b => ?_, fun k a b => ?_, h6, fun k a => ?_, ?_⟩, fun b cs hb => ?_⟩
    · rcases hn k a with h | h
      · exact h4 k h b
      · have := hlt h2 k b; omega
    · rcases hn k a with h | h
      · exact h5 k h b
      · have := hlt h3 k b; omega
    · rcases a with a | a
      · rcases hn k a with h | h
        · exact h7 k (.inl h)
        · exact Nat.le_trans h8.size h
      · exact h7 k (.inr a)
    · refine ⟨hk.os.trans h8.os, hk.tape.trans h8.tape, hk.output.trans h8.output, Nat.le_trans h8.size hk.size, fun k hk1 => (hk.block k (Nat.lt_of_lt_of_le hk1 h8.size) (fun e => ?_)).trans (h8.block k hk1)⟩
      have := h7 k (.inl e)
      omega
    · refine (hk.block b (Array.getElem?_eq_some_iff.1 hb).1 fun e => ?_).trans hb
      obtain ⟨cs', t, ht, hh⟩ := hl.kind e
      rw [hb] at hh
      simp at hh
      obtain ⟨-, rfl⟩ := hh
      rcases ht with h | h | h | h <;> cases h

/-- The third is made anew. -/
theorem St3.fresh {u2 u3 : World} {xv yv : Option Addr} (h : St3 w0 qa qb qc p r q s x y u) (hx : qc.x < 4294967296) (hlo : qc.lo < 4294967296) (hhi : qc.hi < 4294967296) (hL : ∀ p ∈ qc.L, p.1 < 4294967296) (h1 : NwP qc u xv u2) (h2 : NwR qc u2 yv u3) : St3 w0 qa qb qc p r q s xv yv u3 := by
  obtain ⟨F, hF, hF2⟩ := pair_new hx hlo hhi hL h1 h2
  have hb : Below u.heap.size u u3 := h1.be.trans (h2.be.mono h1.be.size)
  obtain ⟨F1, F2, F3, a1, a2, a3, a4, a5, a6, a7, a8⟩ := h
  have hk : Keeps (fun _ => False) u u3 := Keeps.of hb
  have hlt : ∀ {q : Sp} {pv rv : Option Addr} {F : Nat → Prop}, Pst q u pv rv F → ∀ k, F k → k < u.heap.size := fun hp k hk => by
    obtain ⟨cs, t, -, hh⟩ := hp.kind hk
    exact (Array.getElem?_eq_some_iff.1 hh).1
  refine ⟨F1, F2, F, a1.keeps hk (fun _ _ h => h), a2.keeps hk (fun _ _ h => h), hF, a4, fun k a b => ?_, fun k a b => ?_, fun k a => ?_, a8.trans (hb.mono a8.size)⟩
  · have := hlt a1 k a; have := hF2 k b; omega
  · have := hlt a2 k a; have := hF2 k b; omega
  · rcases a with a | a | a
    · exact a7 k (.inl a)
    · exact a7 k (.inr (.inl a))
    · exact Nat.le_trans a8.size (hF2 k a)

theorem St3.empty (hb : Below w0.heap.size w0 u) : St3 w0 qa qb qc none none none none none none u :=
  ⟨fun _ => False, fun _ => False, fun _ => False, .inl ⟨rfl, rfl, fun _ h => h⟩, .inl ⟨rfl, rfl, fun _ h => h⟩, .inl ⟨rfl, rfl, fun _ h => h⟩, fun _ _ h => h, fun _ _ h => h, fun _ _ h => h, fun _ h => by simp at h, hb⟩

theorem St3.nils (h : St3 w0 qa qb qc p r q s x y u) : (p = none ↔ r = none) ∧ (q = none ↔ s = none) ∧ (x = none ↔ y = none) := by
  obtain ⟨F1, F2, F3, a1, a2, a3, -⟩ := h
  have : ∀ {q : Sp} {pv rv : Option Addr} {F : Nat → Prop}, Pst q u pv rv F → (pv = none ↔ rv = none) := fun hp => by
    rcases hp with ⟨h1, h2, -⟩ | ⟨pb, rb, h1, h2, -⟩
    · rw [h1, h2]
    · rw [h1, h2]; simp
  exact ⟨this a1, this a2, this a3⟩
end
end Go.Proofs.Ytahoileampdnkaa
