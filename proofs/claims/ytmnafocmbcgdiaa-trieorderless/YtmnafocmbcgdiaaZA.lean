/-
  For TrieOrderless: what a trie holds, by members; as many nodes as the entries say; two tries and two lists beside one another.
-/
import Derived.Test.YtmnafocmbcgdiaaYM
import Derived.Test.YtmnafocmbcgdiaaXIA
namespace Go.Proofs.Ytmnafocmbcgdiaa
open Go.ChangeShapes Go.WideShapes Go.ChangeAt Go.RowKit Go.Shelf Tri N
set_option maxHeartbeats 4000000
set_option maxRecDepth 100000

/-- What a trie holds. -/
def Has (t : Tr) (A : K → Int → Prop) : Prop := ∀ e, e ∈ ents t ↔ A e.1 e.2

theorem Has.iff {t : Tr} {A B : K → Int → Prop} (h : Has t A) (hab : ∀ p x, A p x ↔ B p x) : Has t B := fun e => (h e).trans (hab _ _)

theorem Has.nil : Has .nil (fun _ _ => False) := fun e => by simp [ents]

theorem Has.put {t : Tr} {A : K → Int → Prop} (h : Has t A) (hW : WF top.x (top.x + top.s) t) {k : K} (hk : k.Ok) (v : Int) : Has (hang t k (some v)) (fun p x => (p = k ∧ x = v) ∨ (p ≠ k ∧ A p x)) := fun e => by
  rw [(hang_facts (v := some v) top_ok hW hk hk.top).2 e, h e]
  constructor
  · rintro (⟨h1, h2⟩ | h2)
    · exact .inl ⟨h1, (Option.some.inj h2).symm⟩
    · exact .inr h2
  · rintro (⟨h1, h2⟩ | h2)
    · exact .inl ⟨h1, by rw [h2]⟩
    · exact .inr h2

theorem Has.del {t : Tr} {A : K → Int → Prop} (h : Has t A) (hW : WF top.x (top.x + top.s) t) {k : K} (hk : k.Ok) : Has (delT t k) (fun p x => p ≠ k ∧ A p x) := fun e => by
  have key : e ∈ ents (delT t k) ↔ (e.1 ≠ k ∧ e ∈ ents t) := by
    unfold delT
    cases hq : lookT t k with
    | some v =>
      show e ∈ ents (hang t k none) ↔ _
      rw [(hang_facts top_ok hW hk hk.top).2 e]
      constructor
      · rintro (⟨_, h2⟩ | h2)
        · cases h2
        · exact h2
      · intro h2; exact .inr h2
    | none =>
      constructor
      · intro he
        refine ⟨fun hk' => ?_, he⟩
        obtain ⟨a, b⟩ := e
        simp only at hk'
        subst hk'
        rw [lookT_of hW he] at hq
        cases hq
      · exact fun h2 => h2.2
  rw [key, h e]

theorem Has.same {s t : Tr} {A : K → Int → Prop} (hs : Has s A) (ht : Has t A) {lo hi lo' hi' : Nat} (h1 : WF lo hi s) (h2 : WF lo' hi' t) : ents s = ents t :=
  ris_ext (ents_ris h1) (ents_ris h2) fun e => (hs e).trans (ht e).symm

theorem fk_len_eq {s t : Tr} {lo hi lo' hi' : Nat} (h1 : WF lo hi s) (h2 : WF lo' hi' t) (he : ents s = ents t) : (fk s).length = (fk t).length := by
  have key : ∀ i, i ≤ (ents s).length → ahead s i = ahead t i := by
    intro i
    induction i with
    | zero => intro _; rw [ahead_zero, ahead_zero]
    | succ i ih =>
      intro hi
      obtain ⟨e, hx⟩ : ∃ e, (ents s)[i]? = some e := ⟨_, List.getElem?_eq_getElem hi⟩
      have hy : (ents t)[i]? = some e := by rw [← he]; exact hx
      rw [ahead_step h1 hx, ahead_step h2 hy, ih (by omega), he]
  rw [← ahead_all h1, ← ahead_all h2, ← he]
  exact key _ (Nat.le_refl _)

theorem nodes_eq {s t : Tr} {lo hi lo' hi' : Nat} (h1 : WF lo hi s) (h2 : WF lo' hi' t) (he : ents s = ents t) : nodes s = nodes t := by
  rw [nodes_fk, nodes_fk, fk_len_eq h1 h2 he, he]

theorem fk_le {lo hi : Nat} {t : Tr} (h : WF lo hi t) : (t = .nil ∧ (fk t).length = 0 ∧ (ents t).length = 0) ∨ (fk t).length + 1 ≤ (ents t).length := by
  induction t generalizing lo hi with
  | nil => exact .inl ⟨rfl, rfl, rfl⟩
  | node k u l r il ir =>
    obtain ⟨_, _, _, hl, hr, hu⟩ := h
    have h1 := il hl
    have h2 := ir hr
    right
    cases u with
    | none =>
      obtain ⟨n1, n2⟩ := hu rfl
      have g1 : (fk l).length + 1 ≤ (ents l).length := by rcases h1 with h1 | h1; exact absurd h1.1 n1; exact h1
      have g2 : (fk r).length + 1 ≤ (ents r).length := by rcases h2 with h2 | h2; exact absurd h2.1 n2; exact h2
      simp [fk, ents, own]
      omega
    | some v =>
      simp [fk, ents, own]
      omega

/-- A trie is untouched by what is done to another. -/
theorem TrieAt.other {w w' : World} {X Z : Nat → Prop} {tb : Nat} {t : Tr} (h : TrieAt w X tb t) (hZ : ∀ b, Z b → X b) (hn : ¬ Z tb) (hc : Chg Z w w') : TrieAt w' X tb t := by
  obtain ⟨h1, h2, ⟨m, h3, h4, h5⟩, h6⟩ := h
  exact ⟨h1, fun b hx => Nat.lt_of_lt_of_le (h2 b hx) hc.size, ⟨m, (hc.block tb (Array.getElem?_eq_some_iff.1 h3).1 hn).trans h3, h4, h5.chg (hc.mono hZ)⟩, h6⟩

def OX (vl : Value) (sb tb : Nat) (b : Nat) : Prop := b = sb ∨ b = tb ∨ vl.ownBlock = some b

/-- Two tries and two lists. -/
structure Orl (w : World) (vl vo : Value) (sb tb : Nat) (M O : List K) (S T : Tr) (W : World) : Prop where
  bel : Below w.heap.size w W
  lo : w.heap.size ≤ sb ∧ w.heap.size ≤ tb
  st : sb ≠ tb
  ts : TrieAt W (OX vl sb tb) sb S
  tt : TrieAt W (OX vl sb tb) tb T
  rl : W.ownsRow w.heap.size 32 2 vl M.length (kcs M)
  ro : W.ownsRow w.heap.size 32 2 vo O.length (kcs O)
  al : ∀ b, vl.ownBlock = some b → b ≠ sb ∧ b ≠ tb
  ao : ∀ b, vo.ownBlock = some b → ¬ OX vl sb tb b

section
variable {w W W' : World} {vl vo : Value} {sb tb : Nat} {M O : List K} {S T : Tr}

theorem Orl.below (h : Orl w vl vo sb tb M O S T W) (hb : Below W.heap.size W W') : Orl w vl vo sb tb M O S T W' :=
  ⟨h.bel.trans (hb.mono h.bel.size), h.lo, h.st, h.ts.grow hb, h.tt.grow hb, row_chg (X := fun _ => False) h.rl (Chg.of_below hb) (fun _ _ h => h), row_chg (X := fun _ => False) h.ro (Chg.of_below hb) (fun _ _ h => h), h.al, h.ao⟩

theorem Orl.puts (h : Orl w vl vo sb tb M O S T W) {k : K} (hk : k.Ok) (v : Int) :
    Calls Try.prog 11 #[.pointer (some ⟨sb, 0, none⟩), pv k, .int .i64 v] W fun e W' => e = .returned (.int .i64 0) ∧ Orl w vl vo sb tb M O (hang S k (some v)) T W' := by
  refine (put_any k v W h.ts hk).mono ?_
  rintro e W' ⟨he, hT, hc⟩
  exact ⟨he, ⟨hc.os.trans h.bel.os, hc.tape.trans h.bel.tape, hc.output.trans h.bel.output, Nat.le_trans h.bel.size hc.size, fun b hb => (hc.block b (Nat.lt_of_lt_of_le hb h.bel.size) (by have := h.lo.1; omega)).trans (h.bel.block b hb)⟩, h.lo, h.st, hT, h.tt.other (fun b hb => .inl hb) (fun e => h.st e.symm) hc, row_chg h.rl hc (fun b hb => (h.al b hb).1), row_chg h.ro hc (fun b hb e => h.ao b hb (.inl e)), h.al, h.ao⟩

theorem Orl.chgT (h : Orl w vl vo sb tb M O S T W) {T' : Tr} (hT : TrieAt W' (OX vl sb tb) tb T') (hc : Chg (fun b => b = tb) W W') : Orl w vl vo sb tb M O S T' W' :=
  ⟨⟨hc.os.trans h.bel.os, hc.tape.trans h.bel.tape, hc.output.trans h.bel.output, Nat.le_trans h.bel.size hc.size, fun b hb => (hc.block b (Nat.lt_of_lt_of_le hb h.bel.size) (by have := h.lo.2; omega)).trans (h.bel.block b hb)⟩, h.lo, h.st, h.ts.other (fun b hb => .inr (.inl hb)) h.st hc, hT, row_chg h.rl hc (fun b hb => (h.al b hb).2), row_chg h.ro hc (fun b hb e => h.ao b hb (.inr (.inl e))), h.al, h.ao⟩

theorem Orl.putt (h : Orl w vl vo sb tb M O S T W) {k : K} (hk : k.Ok) (v : Int) :
    Calls Try.prog 11 #[.pointer (some ⟨tb, 0, none⟩), pv k, .int .i64 v] W fun e W' => e = .returned (.int .i64 0) ∧ Orl w vl vo sb tb M O S (hang T k (some v)) W' := by
  refine (put_any k v W h.tt hk).mono ?_
  rintro e W' ⟨he, hT, hc⟩
  exact ⟨he, h.chgT hT hc⟩

theorem Orl.delt (h : Orl w vl vo sb tb M O S T W) {k : K} (hk : k.Ok) :
    Calls Try.prog 31 #[.pointer (some ⟨tb, 0, none⟩), pv k] W fun e W' => e = .returned (getV (lookT T k)) ∧ Orl w vl vo sb tb M O S (delT T k) W' := by
  refine (del_any k W h.tt hk).mono ?_
  rintro e W' ⟨he, hT, hc⟩
  exact ⟨he, h.chgT hT hc⟩

theorem Orl.seesL (h : Orl w vl vo sb tb M O S T W) : Sees W vl (M.map kp) := sees_of_owns h.rl
theorem Orl.seesO (h : Orl w vl vo sb tb M O S T W) : Sees W vo (O.map kp) := sees_of_owns h.ro
end

theorem kcs_set (M : List K) {i : Nat} (q : K) (hi : i < M.length) : kcs (M.set i q) = ((kcs M).set (i * 2) (.int .u32 (q.x : Int))).set (i * 2 + 1) (.int .i64 (q.n : Int)) := by
  induction M generalizing i with
  | nil => cases hi
  | cons p M ih =>
    cases i with
    | zero => simp [kcs, kc]
    | succ i =>
      have h := ih (i := i) (by simpa using hi)
      simp only [kcs, List.flatMap_cons] at h ⊢
      rw [List.set_cons_succ, List.flatMap_cons, h, show (i + 1) * 2 = i * 2 + 1 + 1 by omega]
      simp [kc]

theorem row_store {W : World} {base g cap : Nat} {M : List K} {i : Nat} (q : K) (h : W.ownsRow base 32 2 (.slice (some ⟨g, 0, none⟩) M.length cap) M.length (kcs M)) (hi : i < M.length) :
    ((W.setCell ⟨g, i * 2, none⟩ (.int .u32 (q.x : Int))).setCell ⟨g, i * 2 + 1, none⟩ (.int .i64 (q.n : Int))).ownsRow base 32 2 (.slice (some ⟨g, 0, none⟩) M.length cap) (M.set i q).length (kcs (M.set i q)) := by
  obtain ⟨h1, h2⟩ := h
  refine ⟨by rw [kcs_len], ?_⟩
  rcases h2 with ⟨hv, _⟩ | ⟨g', cap', cur, hv, hb, hg, hnc, hcm, hcs, ht⟩
  · cases hv
  · simp at hv
    obtain ⟨rfl, rfl⟩ := hv
    refine .inr ⟨g, cap, (cur.setIfInBounds (i * 2) (.int .u32 (q.x : Int))).setIfInBounds (i * 2 + 1) (.int .i64 (q.n : Int)), by simp, hb, set_row (set_row hg), by simpa using hnc, hcm, by simpa using hcs, ?_⟩
    rw [kcs_set M q hi, ← ht, List.length_set]
    simp only [Array.toList_setIfInBounds, List.take_set]

theorem Orl.store {w W : World} {vo : Value} {sb tb g cap : Nat} {M O : List K} {S T : Tr} (h : Orl w (.slice (some ⟨g, 0, none⟩) M.length cap) vo sb tb M O S T W) {i : Nat} (q : K) (hi : i < M.length) :
    Orl w (.slice (some ⟨g, 0, none⟩) (M.set i q).length cap) vo sb tb (M.set i q) O S T ((W.setCell ⟨g, i * 2, none⟩ (.int .u32 (q.x : Int))).setCell ⟨g, i * 2 + 1, none⟩ (.int .i64 (q.n : Int))) := by
  have hg := (row_own h.rl (b := g) rfl).1
  have hc : Chg (fun b => b = g) W ((W.setCell ⟨g, i * 2, none⟩ (.int .u32 (q.x : Int))).setCell ⟨g, i * 2 + 1, none⟩ (.int .i64 (q.n : Int))) := (Chg.of_but (X := fun b => b = g) (But.set _ _ _ _) rfl).trans (Chg.of_but (X := fun b => b = g) (But.set _ _ _ _) rfl)
  have hal := h.al g rfl
  rw [List.length_set]
  refine ⟨⟨hc.os.trans h.bel.os, hc.tape.trans h.bel.tape, hc.output.trans h.bel.output, Nat.le_trans h.bel.size hc.size, fun b hb => (hc.block b (Nat.lt_of_lt_of_le hb h.bel.size) (by omega)).trans (h.bel.block b hb)⟩, h.lo, h.st, h.ts.other (fun b hb => .inr (.inr (by rw [hb]; rfl))) (fun e => hal.1 e.symm) hc, h.tt.other (fun b hb => .inr (.inr (by rw [hb]; rfl))) (fun e => hal.2 e.symm) hc, row_store q h.rl hi, row_chg h.ro hc (fun b hb e => h.ao b hb (.inr (.inr (by rw [e]; rfl)))), h.al, h.ao⟩

/-- Two places exchanged. -/
def swp (M : List K) (k j : Nat) (x y : K) : List K := (M.set k y).set j x

theorem swp_len (M : List K) (k j : Nat) (x y : K) : (swp M k j x y).length = M.length := by simp [swp]

theorem swp_mem {M : List K} {k j : Nat} {x y : K} (hk : M[k]? = some x) (hj : M[j]? = some y) : ∀ p, p ∈ swp M k j x y ↔ p ∈ M := by
  have hkl := (List.getElem?_eq_some_iff.1 hk).1
  have hjl := (List.getElem?_eq_some_iff.1 hj).1
  have at' : ∀ i, (swp M k j x y)[i]? = if i = j then some x else if i = k then some y else M[i]? := fun i => by
    unfold swp
    rw [List.getElem?_set, List.getElem?_set]
    simp only [List.length_set]
    by_cases h1 : j = i
    · subst h1; simp [hjl]
    · by_cases h2 : k = i
      · subst h2; simp [h1, hkl, Ne.symm h1]
      · rw [if_neg h1, if_neg h2, if_neg (fun e => h1 e.symm), if_neg (fun e => h2 e.symm)]
  intro p
  constructor
  · intro hp
    obtain ⟨i, hi⟩ := List.mem_iff_getElem?.1 hp
    rw [at'] at hi
    by_cases h1 : i = j
    · rw [if_pos h1] at hi; rw [← Option.some.inj hi]; exact List.mem_of_getElem? hk
    · rw [if_neg h1] at hi
      by_cases h2 : i = k
      · rw [if_pos h2] at hi; rw [← Option.some.inj hi]; exact List.mem_of_getElem? hj
      · rw [if_neg h2] at hi; exact List.mem_of_getElem? hi
  · intro hp
    obtain ⟨i, hi⟩ := List.mem_iff_getElem?.1 hp
    by_cases h1 : i = j
    · subst h1
      by_cases h2 : k = i
      · subst h2
        refine List.mem_of_getElem? (i := k) ?_
        rw [at', if_pos rfl, ← hk, hi]
      · refine List.mem_of_getElem? (i := k) ?_
        rw [at', if_neg h2, if_pos rfl, ← hj, hi]
    · by_cases h2 : i = k
      · subst h2
        refine List.mem_of_getElem? (i := j) ?_
        rw [at', if_pos rfl, ← hk, hi]
      · refine List.mem_of_getElem? (i := i) ?_
        rw [at', if_neg h1, if_neg h2, hi]

theorem swp_drop {M : List K} {k n : Nat} {x y : K} (hk : k ≤ n) (hn : n < M.length) : (swp M k n x y).drop n = x :: M.drop (n + 1) := by
  unfold swp
  have h1 : n < ((M.set k y).set n x).length := by simp; exact hn
  rw [List.drop_eq_getElem_cons h1]
  congr 1
  · simp
  · rw [List.drop_set, List.drop_set]
    rw [if_pos (by omega), if_pos (by omega)]
end Go.Proofs.Ytmnafocmbcgdiaa
