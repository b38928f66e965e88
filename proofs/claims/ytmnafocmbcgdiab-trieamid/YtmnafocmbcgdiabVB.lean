/-
  What is hung into the tree is there, and all else stays; the longest that holds an address.
-/
import Derived.Test.YtmnafocmbcgdiabVA
namespace Go.Proofs.Ytmnafocmbcgdiab
namespace Tri

/-- The whole room. -/
def top : K := ⟨0, 0⟩
theorem top_ok : top.Ok := ⟨by decide, by decide, by decide⟩
theorem top_s : top.s = 4294967296 := by decide
theorem K.Ok.top {p : K} (h : p.Ok) : Ins p top := ⟨Nat.zero_le _, by have := h.end; rw [top_s]; show _ ≤ 0 + _; omega⟩

/-- The two halves of a prefix. -/
def lowK (k : K) : K := ⟨k.x, k.n + 1⟩
def highK (k : K) : K := ⟨k.x + k.h, k.n + 1⟩

theorem half_s {k : K} (h : k.n < 32) : 2 ^ (32 - (k.n + 1)) = k.h := by
  have e : k.s = 2 * 2 ^ (32 - (k.n + 1)) := by
    unfold K.s
    rw [show 32 - k.n = (32 - (k.n + 1)) + 1 by omega, Nat.pow_succ, Nat.mul_comm]
  unfold K.h
  omega

theorem lowK_s {k : K} (h : k.n < 32) : (lowK k).s = k.h := half_s h
theorem highK_s {k : K} (h : k.n < 32) : (highK k).s = k.h := half_s h

theorem lowK_ok {k : K} (hk : k.Ok) (h : k.n < 32) : (lowK k).Ok := by
  refine ⟨by show k.n + 1 ≤ 32; omega, ?_, hk.2.2⟩
  rw [lowK_s h]
  exact Nat.dvd_trans ⟨2, by rw [s_two h, Nat.mul_comm]⟩ hk.2.1

theorem highK_ok {k : K} (hk : k.Ok) (h : k.n < 32) : (highK k).Ok := by
  refine ⟨by show k.n + 1 ≤ 32; omega, ?_, ?_⟩
  · rw [highK_s h]
    exact Nat.dvd_add (Nat.dvd_trans ⟨2, by rw [s_two h, Nat.mul_comm]⟩ hk.2.1) (Nat.dvd_refl _)
  · have := hk.end
    have e := s_two h
    have := k.s_pos
    show k.x + k.h < _
    omega

theorem ins_anti {p q : K} (hp : p.Ok) (hq : q.Ok) (h1 : Ins p q) (h2 : Ins q p) : p = q := ins_eq h1 (Nat.le_antisymm (ins_len hq hp h2) (ins_len hp hq h1))

/-- The smallest prefix around two lies in every one around both. -/
theorem com_in {p k H : K} (hp : p.Ok) (hk : k.Ok) (hH : H.Ok) (h1 : Ins p H) (h2 : Ins k H) : Ins (com p k) H := by
  obtain ⟨c1, c2, c3, c4⟩ := com_facts hp hk
  have hps := p.s_pos
  have hks := k.s_pos
  by_cases hn : H.n ≤ (com p k).n
  · rcases nest c1 hH hn with h | h | h
    · exact h
    · have := h1.1; have := c2.2; omega
    · have := h1.2; have := c2.1; omega
  · rcases nest hH c1 (by omega) with h | h | h
    · by_cases e : H = com p k
      · rw [← e]; exact ⟨Nat.le_refl _, Nat.le_refl _⟩
      · have hh := (halves hH c1 h e).2
        by_cases e1 : com p k = p
        · rw [e1]; exact h1
        · by_cases e2 : com p k = k
          · rw [e2]; exact h2
          · have := c4 e1 e2
            have := h1.1; have := h1.2; have := h2.1; have := h2.2
            omega
    · have := h1.2; have := c2.1; have := h1.1; have := c2.2; omega
    · have := h1.1; have := c2.2; omega

theorem kid_ne {lo hi : Nat} {k : K} {e : K × Int} (he : e.1.Ok ∧ lo ≤ e.1.x ∧ e.1.x + e.1.s ≤ hi) (h : hi ≤ k.x + k.h ∨ (k.x + k.h ≤ lo ∧ hi ≤ k.x + 2 * k.h)) : e.1 ≠ k := by
  intro e1
  obtain ⟨_, h1, h2⟩ := he
  rw [e1] at h1 h2
  have := h2_le k
  have := k.s_pos
  omega

theorem mem_own {k : K} {v : Option Int} {e : K × Int} : e ∈ own k v ↔ e.1 = k ∧ v = some e.2 := by
  obtain ⟨a, b⟩ := e
  cases v with
  | none => simp [own]
  | some c => simp [own, eq_comm]

theorem hang_facts {H : K} {t : Tr} (hH : H.Ok) (h : WF H.x (H.x + H.s) t) {p : K} {v : Option Int} (hp : p.Ok) (hin : Ins p H) :
    WF H.x (H.x + H.s) (hang t p v) ∧ ∀ e, e ∈ ents (hang t p v) ↔ (e.1 = p ∧ v = some e.2) ∨ (e.1 ≠ p ∧ e ∈ ents t) := by
  induction t generalizing H with
  | nil =>
    refine ⟨WF_join hp hin.1 hin.2 trivial trivial, fun e => ?_⟩
    rw [hang, ents_join]
    simp [ents, mem_own]
  | node k u l r il ir =>
    have hW := h
    obtain ⟨a, b, c, d, f, g⟩ := h
    have hkH : Ins k H := ⟨b, c⟩
    have h2 := h2_le k
    have hks := k.s_pos
    have hps := p.s_pos
    have el := ents_in d
    have er := ents_in f
    have neL : ∀ e ∈ ents l, e.1 ≠ k := fun e he => kid_ne (el e he) (.inl (Nat.le_refl _))
    have neR : ∀ e ∈ ents r, e.1 ≠ k := fun e he => kid_ne (er e he) (.inr ⟨Nat.le_refl _, Nat.le_refl _⟩)
    obtain ⟨c1, c2, c3, c4⟩ := com_facts hp a
    have cin := com_in hp a hH hin hkH
    rw [hang]
    by_cases e0 : k = p
    · rw [if_pos e0]
      subst e0
      refine ⟨WF_join a b c d f, fun e => ?_⟩
      rw [ents_join, ents, List.mem_append, List.mem_append, List.mem_append, List.mem_append, mem_own, mem_own]
      constructor
      · rintro (h | h | h)
        · exact .inl h
        · exact .inr ⟨neL e h, .inr (.inl h)⟩
        · exact .inr ⟨neR e h, .inr (.inr h)⟩
      · rintro (h | ⟨n, h | h | h⟩)
        · exact .inl h
        · exact absurd h.1 n
        · exact .inr (.inl h)
        · exact .inr (.inr h)
    · rw [if_neg e0]
      by_cases e1 : com p k = k
      · rw [if_pos e1]
        rw [e1] at c2
        obtain ⟨hlt, hh⟩ := halves hp a c2 (Ne.symm e0)
        have hp32 := hp.1
        have k32 : k.n < 32 := by omega
        have es := s_two k32
        have sd := side_of (a := p.x) a k32 c2.1 (by have := c2.2; omega)
        by_cases hm : p.x < k.x + k.h
        · rw [if_pos hm] at sd
          rw [if_pos sd]
          have hL := il (H := lowK k) (lowK_ok a k32) (by rw [lowK_s k32]; exact d) (by refine ⟨c2.1, ?_⟩; rw [lowK_s k32]; show _ ≤ k.x + k.h; omega)
          rw [lowK_s k32] at hL
          refine ⟨WF_join a b c hL.1 f, fun e => ?_⟩
          have hpR : ∀ e ∈ ents r, e.1 ≠ p := fun e he e1 => by have := (er e he).2.1; rw [e1] at this; omega
          rw [ents_join, ents, List.mem_append, List.mem_append, List.mem_append, List.mem_append, mem_own, hL.2 e]
          constructor
          · rintro (h | (h | h) | h)
            · exact .inr ⟨by rw [h.1]; exact e0, .inl h⟩
            · exact .inl h
            · exact .inr ⟨h.1, .inr (.inl h.2)⟩
            · exact .inr ⟨hpR e h, .inr (.inr h)⟩
          · rintro (h | ⟨n, h | h | h⟩)
            · exact .inr (.inl (.inl h))
            · exact .inl h
            · exact .inr (.inl (.inr ⟨n, h⟩))
            · exact .inr (.inr h)
        · rw [if_neg hm] at sd
          rw [if_neg (by omega)]
          have hR := ir (H := highK k) (highK_ok a k32) (by rw [highK_s k32]; exact f.mono (Nat.le_refl _) (by show _ ≤ k.x + k.h + k.h; omega)) (by refine ⟨by show k.x + k.h ≤ p.x; omega, ?_⟩; rw [highK_s k32]; show _ ≤ k.x + k.h + k.h; have := c2.2; omega)
          rw [highK_s k32] at hR
          refine ⟨WF_join a b c d (hR.1.mono (Nat.le_refl _) (by show k.x + k.h + k.h ≤ _; omega)), fun e => ?_⟩
          have hpL : ∀ e ∈ ents l, e.1 ≠ p := fun e he e1 => by have := (el e he).2.2; rw [e1] at this; omega
          rw [ents_join, ents, List.mem_append, List.mem_append, List.mem_append, List.mem_append, mem_own, hR.2 e]
          constructor
          · rintro (h | h | (h | h))
            · exact .inr ⟨by rw [h.1]; exact e0, .inl h⟩
            · exact .inr ⟨hpL e h, .inr (.inl h)⟩
            · exact .inl h
            · exact .inr ⟨h.1, .inr (.inr h.2)⟩
          · rintro (h | ⟨n, h | h | h⟩)
            · exact .inr (.inr (.inl h))
            · exact .inl h
            · exact .inr (.inl h)
            · exact .inr (.inr (.inr ⟨n, h⟩))
      · rw [if_neg e1]
        have eT := ents_in hW
        by_cases e2 : com p k = p
        · rw [if_pos e2]
          rw [e2] at c3
          obtain ⟨hlt, hh⟩ := halves a hp c3 e0
          have p32 : p.n < 32 := by have := a.1; omega
          have es := s_two p32
          have sd := side_of (a := k.x) hp p32 c3.1 (by have := c3.2; omega)
          have eK : ∀ e ∈ ents (.node k u l r), e.1 ≠ p := fun e he e4 => by
            have := ents_in (t := .node k u l r) (lo := k.x) (hi := k.x + k.s) ⟨a, Nat.le_refl _, Nat.le_refl _, d, f, g⟩ e he
            rw [e4] at this
            exact e0 (ins_anti a hp c3 ⟨this.2.1, this.2.2⟩)
          have fin : ∀ e, e ∈ own p v ++ ents (.node k u l r) ↔ (e.1 = p ∧ v = some e.2) ∨ (e.1 ≠ p ∧ e ∈ ents (.node k u l r)) := fun e => by
            rw [List.mem_append, mem_own]
            constructor
            · rintro (h | h)
              · exact .inl h
              · exact .inr ⟨eK e h, h⟩
            · rintro (h | h)
              · exact .inl h
              · exact .inr h.2
          by_cases hm : k.x < p.x + p.h
          · rw [if_pos hm] at sd
            rw [if_pos sd]
            refine ⟨WF_join hp hin.1 hin.2 ⟨a, c3.1, by omega, d, f, g⟩ trivial, fun e => ?_⟩
            rw [ents_join]
            simpa [ents] using fin e
          · rw [if_neg hm] at sd
            rw [if_neg (by omega)]
            refine ⟨WF_join hp hin.1 hin.2 trivial ⟨a, by omega, by have := c3.2; omega, d, f, g⟩, fun e => ?_⟩
            rw [ents_join]
            simpa [ents] using fin e
        · rw [if_neg e2]
          have hd := c4 e2 e1
          generalize com p k = q at *
          obtain ⟨hl1, hh1⟩ := halves hp c1 c2 (Ne.symm e2)
          obtain ⟨hl2, hh2⟩ := halves a c1 c3 (Ne.symm e1)
          have q32 : q.n < 32 := by have := a.1; omega
          have es := s_two q32
          have sd := side_of (a := k.x) c1 q32 c3.1 (by have := c3.2; omega)
          have eK : ∀ e ∈ ents (.node k u l r), e.1 ≠ p := fun e he e4 => by
            have := ents_in (t := .node k u l r) (lo := k.x) (hi := k.x + k.s) ⟨a, Nat.le_refl _, Nat.le_refl _, d, f, g⟩ e he
            rw [e4] at this
            omega
          have eP : ents (join p v .nil .nil) = own p v := by rw [ents_join]; simp [ents]
          by_cases hm : k.x < q.x + q.h
          · rw [if_pos hm] at sd
            rw [if_pos sd]
            refine ⟨WF_join c1 cin.1 cin.2 ⟨a, c3.1, by omega, d, f, g⟩ (WF_join hp (by omega) (by have := c2.2; omega) trivial trivial), fun e => ?_⟩
            rw [ents_join, eP, show own q none = [] from rfl, List.nil_append, List.mem_append, mem_own]
            constructor
            · rintro (h | h)
              · exact .inr ⟨eK e h, h⟩
              · exact .inl h
            · rintro (h | h)
              · exact .inr h
              · exact .inl h.2
          · rw [if_neg hm] at sd
            rw [if_neg (by omega)]
            refine ⟨WF_join c1 cin.1 cin.2 (WF_join hp c2.1 (by omega) trivial trivial) ⟨a, by omega, by have := c3.2; omega, d, f, g⟩, fun e => ?_⟩
            rw [ents_join, eP, show own q none = [] from rfl, List.nil_append, List.mem_append, mem_own]
            constructor
            · rintro (h | h)
              · exact .inl h
              · exact .inr ⟨eK e h, h⟩
            · rintro (h | h)
              · exact .inl h
              · exact .inr h.2

/-- Does the prefix hold the address? -/
def hasK (k : K) (a : Nat) : Bool := decide (k.x ≤ a ∧ a < k.x + k.s)

/-- The longest prefix with a value that holds an address. -/
def find : Tr → Nat → Option (K × Int)
  | .nil, _ => none
  | .node k u l r, a => if hasK k a then ((if side a k.n = 0 then find l a else find r a).or (u.map fun v => (k, v))) else none

theorem find_mem {t : Tr} {a : Nat} {e : K × Int} (h : find t a = some e) : e ∈ ents t ∧ hasK e.1 a = true := by
  induction t with
  | nil => simp [find] at h
  | node k u l r il ir =>
    rw [find] at h
    by_cases hk : hasK k a
    · rw [if_pos hk] at h
      have hu : ∀ o : Option (K × Int), o.or (u.map fun v => (k, v)) = some e → o = some e ∨ (e.1 = k ∧ u = some e.2) := fun o ho => by
        cases o with
        | some x => left; simpa using ho
        | none =>
          right
          cases u with
          | none => simp at ho
          | some v => simp at ho; subst ho; exact ⟨rfl, rfl⟩
      rcases hu _ h with h1 | h1
      · by_cases hs : side a k.n = 0
        · rw [if_pos hs] at h1; exact ⟨by rw [ents]; simp [(il h1).1], (il h1).2⟩
        · rw [if_neg hs] at h1; exact ⟨by rw [ents]; simp [(ir h1).1], (ir h1).2⟩
      · refine ⟨by rw [ents, List.mem_append]; exact .inl (mem_own.2 h1), by rw [h1.1]; exact hk⟩
    · rw [if_neg hk] at h; simp at h

/-- Every entry that holds the address is at most as long as the one found. -/
theorem find_best {lo hi : Nat} {t : Tr} (hW : WF lo hi t) {a : Nat} {e : K × Int} (he : e ∈ ents t) (hh : hasK e.1 a = true) : ∃ f, find t a = some f ∧ e.1.n ≤ f.1.n := by
  induction t generalizing lo hi with
  | nil => simp [ents] at he
  | node k u l r il ir =>
    have hW' := hW
    obtain ⟨ak, b, c, d, f, g⟩ := hW
    have hin := ents_in (t := .node k u l r) (lo := k.x) (hi := k.x + k.s) ⟨ak, Nat.le_refl _, Nat.le_refl _, d, f, g⟩ e he
    have h0 : e.1.x ≤ a ∧ a < e.1.x + e.1.s := by unfold hasK at hh; simpa using hh
    have h2 := h2_le k
    have hk : hasK k a = true := by unfold hasK; simp; omega
    rw [find, if_pos hk]
    rw [ents, List.mem_append, List.mem_append, mem_own] at he
    have up : ∀ o : Option (K × Int), (∃ q, o = some q ∧ e.1.n ≤ q.1.n) → ∃ q, o.or (u.map fun v => (k, v)) = some q ∧ e.1.n ≤ q.1.n := by
      rintro _ ⟨q, rfl, hq⟩; exact ⟨q, by simp, hq⟩
    have low32 : ∀ {lo hi : Nat} {t : Tr}, WF lo hi t → hi ≤ lo → ents t = [] := fun {lo hi t} hw hl => by
      cases t with
      | nil => rfl
      | node k2 u2 l2 r2 => have := hw.2.1; have := hw.2.2.1; have := k2.s_pos; omega
    rcases he with he | he | he
    · cases ho : (if side a k.n = 0 then find l a else find r a) with
      | none => exact ⟨(k, e.2), by rw [he.2]; rfl, by rw [he.1]; exact Nat.le_refl _⟩
      | some q =>
        have hq : q ∈ ents (.node k u l r) := by
          rw [ents, List.mem_append, List.mem_append]
          by_cases hs : side a k.n = 0
          · rw [if_pos hs] at ho; exact .inr (.inl (find_mem ho).1)
          · rw [if_neg hs] at ho; exact .inr (.inr (find_mem ho).1)
        have hi := ents_in (t := .node k u l r) (lo := k.x) (hi := k.x + k.s) ⟨ak, Nat.le_refl _, Nat.le_refl _, d, f, g⟩ q hq
        exact ⟨q, by simp, by rw [he.1]; exact ins_len hi.1 ak ⟨hi.2.1, hi.2.2⟩⟩
    · have h32 : k.n < 32 := by
        rcases Nat.lt_or_ge k.n 32 with h | h
        · exact h
        · have := (s_last (q := k) (by have := ak.1; omega)).2
          rw [low32 d (by omega)] at he; simp at he
      have h1 := ents_in d e he
      have sd := side_of ak h32 (by omega) (a := a) (by omega)
      rw [if_pos (by omega)] at sd
      rw [if_pos sd]
      exact up _ (il d he)
    · have h32 : k.n < 32 := by
        rcases Nat.lt_or_ge k.n 32 with h | h
        · exact h
        · have := (s_last (q := k) (by have := ak.1; omega)).2
          rw [low32 f (by omega)] at he; simp at he
      have h1 := ents_in f e he
      have sd := side_of ak h32 (by omega) (a := a) (by omega)
      rw [if_neg (by omega)] at sd
      rw [if_neg (by omega)]
      exact up _ (ir f he)
end Tri
end Go.Proofs.Ytmnafocmbcgdiab
