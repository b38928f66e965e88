/-
  Forks: the nodes that hold nothing, counted at the first entry inside them.
-/
import Derived.Test.YtmnafocmbcgdiaaXC
import Derived.Test.YtmnafocmbcgdiaaWLSA
namespace Go.Proofs.Ytmnafocmbcgdiaa
open Tri

def fk : Tr → List K
  | .nil => []
  | .node k u l r => (if u = none then [k] else []) ++ (fk l ++ fk r)

theorem nodes_fk (t : Tr) : nodes t = (ents t).length + (fk t).length := by
  induction t with
  | nil => rfl
  | node k u l r il ir =>
    rw [nodes, ents, fk]
    cases u with
    | none => simp [own]; omega
    | some v => simp [own]; omega

theorem fk_in {lo hi : Nat} {t : Tr} (h : WF lo hi t) : ∀ q ∈ fk t, q.Ok ∧ lo ≤ q.x ∧ q.x + q.s ≤ hi := by
  induction t generalizing lo hi with
  | nil => intro q hq; simp [fk] at hq
  | node k u l r il ir =>
    obtain ⟨a, b, c, d, e, f⟩ := h
    have h2 := h2_le k
    intro q hq
    rw [fk, List.mem_append, List.mem_append] at hq
    rcases hq with hq | hq | hq
    · split at hq
      · simp at hq; subst hq; exact ⟨a, b, c⟩
      · simp at hq
    · have := il d q hq; exact ⟨this.1, by omega, by omega⟩
    · have := ir e q hq; exact ⟨this.1, by omega, by omega⟩

theorem fk_nd {lo hi : Nat} {t : Tr} (h : WF lo hi t) : (fk t).Nodup := by
  induction t generalizing lo hi with
  | nil => exact List.nodup_nil
  | node k u l r il ir =>
    obtain ⟨a, b, c, d, e, f⟩ := h
    rw [fk, List.nodup_append, List.nodup_append]
    refine ⟨by split <;> simp, ⟨il d, ir e, fun x hx y hy he => ?_⟩, fun x hx y hy he => ?_⟩
    · have h1 := fk_in d x hx
      have h2 := fk_in e y hy
      have := y.s_pos
      rw [he] at h1
      omega
    · split at hx
      · simp at hx
        rw [hx] at he
        rcases List.mem_append.1 hy with hy | hy
        · exact kid_ne (e := (y, 0)) (fk_in d y hy) (.inl (Nat.le_refl _)) he.symm
        · exact kid_ne (e := (y, 0)) (fk_in e y hy) (.inr ⟨Nat.le_refl _, Nat.le_refl _⟩) he.symm
      · simp at hx

theorem some_ent {lo hi : Nat} {t : Tr} (h : WF lo hi t) (hn : t ≠ .nil) : ∃ e, e ∈ ents t := by
  induction t generalizing lo hi with
  | nil => exact absurd rfl hn
  | node k u l r il ir =>
    obtain ⟨a, b, c, d, e, f⟩ := h
    cases u with
    | some v => exact ⟨(k, v), by rw [ents]; simp [own]⟩
    | none =>
      obtain ⟨x, hx⟩ := il d (f rfl).1
      exact ⟨x, by rw [ents]; simp [hx]⟩

/-- A prefix that holds nothing, with an entry in each half. -/
def Forks (L : List (K × Int)) (q : K) : Prop := (∀ e ∈ L, e.1 ≠ q) ∧ (∃ e ∈ L, Ins e.1 (lowK q)) ∧ ∃ e ∈ L, Ins e.1 (highK q)

theorem fk_forks {lo hi : Nat} {t : Tr} (h : WF lo hi t) : ∀ q ∈ fk t, q.n < 32 ∧ Forks (ents t) q := by
  induction t generalizing lo hi with
  | nil => intro q hq; simp [fk] at hq
  | node k u l r il ir =>
    obtain ⟨a, b, c, d, e, f⟩ := h
    have h2 := h2_le k
    intro q hq
    rw [fk, List.mem_append, List.mem_append] at hq
    rcases hq with hq | hq | hq
    · split at hq
      · rename_i hu
        simp at hq
        subst hq
        obtain ⟨h3, h4⟩ := f hu
        obtain ⟨x, hx⟩ := some_ent d h3
        obtain ⟨y, hy⟩ := some_ent e h4
        have ix := ents_in d x hx
        have iy := ents_in e y hy
        have hxs := x.1.s_pos
        have h32 : q.n < 32 := by
          rcases Nat.lt_or_ge q.n 32 with h | h
          · exact h
          · have := (s_last (q := q) (by have := a.1; omega)).2
            omega
        refine ⟨h32, fun z hz => ?_, ⟨x, by rw [ents]; simp [hx], ?_⟩, ⟨y, by rw [ents]; simp [hy], ?_⟩⟩
        · rw [ents, hu, List.mem_append, List.mem_append] at hz
          rcases hz with hz | hz | hz
          · simp [own] at hz
          · exact kid_ne (ents_in d z hz) (.inl (Nat.le_refl _))
          · exact kid_ne (ents_in e z hz) (.inr ⟨Nat.le_refl _, Nat.le_refl _⟩)
        · have e1 := lowK_s h32
          exact ⟨ix.2.1, by show x.1.x + x.1.s ≤ q.x + (lowK q).s; omega⟩
        · have e1 := highK_s h32
          exact ⟨iy.2.1, by show y.1.x + y.1.s ≤ q.x + q.h + (highK q).s; omega⟩
      · simp at hq
    · have hq1 := fk_in d q hq
      have hqs := q.s_pos
      obtain ⟨h32, g1, ⟨x, hx, hx2⟩, ⟨y, hy, hy2⟩⟩ := il d q hq
      refine ⟨h32, fun z hz => ?_, ⟨x, by rw [ents]; simp [hx], hx2⟩, ⟨y, by rw [ents]; simp [hy], hy2⟩⟩
      rw [ents, List.mem_append, List.mem_append] at hz
      rcases hz with hz | hz | hz
      · rw [mem_own] at hz
        rw [hz.1]
        exact fun he => kid_ne (e := (q, 0)) hq1 (.inl (Nat.le_refl _)) he.symm
      · exact g1 z hz
      · intro he
        have := ents_in e z hz
        rw [he] at this
        omega
    · have hq1 := fk_in e q hq
      obtain ⟨h32, g1, ⟨x, hx, hx2⟩, ⟨y, hy, hy2⟩⟩ := ir e q hq
      refine ⟨h32, fun z hz => ?_, ⟨x, by rw [ents]; simp [hx], hx2⟩, ⟨y, by rw [ents]; simp [hy], hy2⟩⟩
      rw [ents, List.mem_append, List.mem_append] at hz
      rcases hz with hz | hz | hz
      · rw [mem_own] at hz
        rw [hz.1]
        exact fun he => kid_ne (e := (q, 0)) hq1 (.inr ⟨Nat.le_refl _, Nat.le_refl _⟩) he.symm
      · intro he
        have := ents_in d z hz
        have hqs := q.s_pos
        rw [he] at this
        omega
      · exact g1 z hz

theorem forks_fk {lo hi : Nat} {t : Tr} (h : WF lo hi t) {q : K} (hq : q.Ok) (h32 : q.n < 32) : Forks (ents t) q → q ∈ fk t := by
  induction t generalizing lo hi with
  | nil => rintro ⟨_, ⟨e, he, _⟩, _⟩; simp [ents] at he
  | node k u l r il ir =>
    have hW0 : WF k.x (k.x + k.s) (.node k u l r) := ⟨h.1, Nat.le_refl _, Nat.le_refl _, h.2.2.2⟩
    obtain ⟨a, b, c, d, e, f⟩ := h
    rintro ⟨g1, ⟨x, hx, hx2⟩, ⟨y, hy, hy2⟩⟩
    have ix := ents_in hW0 x hx
    have iy := ents_in hW0 y hy
    have hxs := x.1.s_pos
    have hys := y.1.s_pos
    have e1 := lowK_s h32
    have e2 := highK_s h32
    have e3 := s_two h32
    have x1 : q.x ≤ x.1.x := hx2.1
    have x2 : x.1.x + x.1.s ≤ q.x + q.h := by have := hx2.2; rw [e1] at this; exact this
    have y1 : q.x + q.h ≤ y.1.x := hy2.1
    have y2 : y.1.x + y.1.s ≤ q.x + q.h + q.h := by have := hy2.2; rw [e2] at this; exact this
    rw [fk, List.mem_append, List.mem_append]
    by_cases hkq : k = q
    · left
      subst hkq
      cases u with
      | none => simp
      | some v => exact absurd rfl (g1 (k, v) (by rw [ents]; simp [own]))
    · have hin : Ins q k := by
        rcases Nat.le_total k.n q.n with hn | hn
        · rcases nest hq a hn with h | h | h
          · exact h
          · omega
          · omega
        · rcases nest a hq hn with h | h | h
          · have := (halves a hq h hkq).2
            rcases this with h5 | ⟨h5, h6⟩ <;> omega
          · omega
          · omega
      have hh := (halves hq a hin (fun e => hkq e.symm)).2
      have notown : ∀ z : K × Int, Ins z.1 q → z.1.Ok → z ∉ own k u := fun z hz hzo hzk => by
        rw [mem_own] at hzk
        rw [hzk.1] at hz
        exact hkq (ins_anti a hq hz hin)
      have ixq : Ins x.1 q := ⟨x1, by omega⟩
      have iyq : Ins y.1 q := ⟨by omega, by omega⟩
      have sub : ∀ z ∈ ents l, z ∈ ents (Tr.node k u l r) := fun z hz => by rw [ents]; simp [hz]
      have sub2 : ∀ z ∈ ents r, z ∈ ents (Tr.node k u l r) := fun z hz => by rw [ents]; simp [hz]
      rw [ents, List.mem_append, List.mem_append] at hx hy
      rcases hh with hh | ⟨hh, hh2⟩
      · right; left
        refine il d ⟨fun z hz => g1 z (sub z hz), ⟨x, ?_, hx2⟩, ⟨y, ?_, hy2⟩⟩
        · rcases hx with hx | hx | hx
          · exact absurd hx (notown x ixq ix.1)
          · exact hx
          · have := ents_in e x hx; omega
        · rcases hy with hy | hy | hy
          · exact absurd hy (notown y iyq iy.1)
          · exact hy
          · have := ents_in e y hy; omega
      · right; right
        refine ir e ⟨fun z hz => g1 z (sub2 z hz), ⟨x, ?_, hx2⟩, ⟨y, ?_, hy2⟩⟩
        · rcases hx with hx | hx | hx
          · exact absurd hx (notown x ixq ix.1)
          · have := ents_in d x hx; omega
          · exact hx
        · rcases hy with hy | hy | hy
          · exact absurd hy (notown y iyq iy.1)
          · have := ents_in d y hy; omega
          · exact hy

/-- The first entry inside. -/
def fstL (L : List (K × Int)) (q : K) : Nat → Option Nat
  | 0 => none
  | n + 1 => match fstL L q n with
    | some i => some i
    | none => if (L[n]?.map (inP q)) = some true then some n else none

theorem fstL_none {L : List (K × Int)} {q : K} {n : Nat} (h : fstL L q n = none) : ∀ i e, i < n → L[i]? = some e → inP q e = false := by
  induction n with
  | zero => intro i e hi; omega
  | succ n ih =>
    intro i e hi he
    unfold fstL at h
    cases hq : fstL L q n with
    | some j => rw [hq] at h; cases h
    | none =>
      rw [hq] at h
      rcases Nat.lt_or_ge i n with h1 | h1
      · exact ih hq i e h1 he
      · obtain rfl : i = n := by omega
        rw [he] at h
        cases hp : inP q e with
        | false => rfl
        | true => simp [hp] at h

theorem fstL_some {L : List (K × Int)} {q : K} {n i : Nat} (h : fstL L q n = some i) : i < n ∧ ∃ e, L[i]? = some e ∧ inP q e = true := by
  induction n with
  | zero => cases h
  | succ n ih =>
    unfold fstL at h
    cases hq : fstL L q n with
    | some j =>
      rw [hq] at h
      obtain rfl : j = i := Option.some.inj h
      obtain ⟨h1, h2⟩ := ih hq
      exact ⟨by omega, h2⟩
    | none =>
      rw [hq] at h
      simp only at h
      split at h
      · obtain rfl : n = i := Option.some.inj h
        rename_i hh
        cases hL : L[n]? with
        | none => rw [hL] at hh; cases hh
        | some e =>
          rw [hL] at hh
          exact ⟨by omega, e, rfl, by simpa using hh⟩
      · cases h

theorem fstL_le {L : List (K × Int)} {q : K} {i j n : Nat} (h : fstL L q j = some i) (hn : j ≤ n) : fstL L q n = some i := by
  induction n with
  | zero => obtain rfl : j = 0 := by omega
            exact h
  | succ n ih =>
    rcases Nat.lt_or_ge j (n + 1) with h1 | h1
    · unfold fstL; rw [ih (by omega)]
    · obtain rfl : j = n + 1 := by omega
      exact h

/-- Is it a fork of the list? -/
def forkB (L : List (K × Int)) (q : K) : Bool := (posL L q L.length).isNone && ((fstL L (lowK q) L.length).isSome && (fstL L (highK q) L.length).isSome)

theorem fst_iff {L : List (K × Int)} {q : K} (hL : ∀ e ∈ L, e.1.Ok) (hq : q.Ok) : (fstL L q L.length).isSome = true ↔ ∃ e ∈ L, Ins e.1 q := by
  constructor
  · intro h
    obtain ⟨i, hi⟩ := Option.isSome_iff_exists.1 h
    obtain ⟨_, e, he, hp⟩ := fstL_some hi
    have hm := List.mem_of_getElem? he
    exact ⟨e, hm, (inP_ins hq (hL e hm)).1 hp⟩
  · rintro ⟨e, he, hin⟩
    cases hf : fstL L q L.length with
    | some i => rfl
    | none =>
      obtain ⟨i, hi⟩ := List.getElem?_of_mem he
      have := fstL_none hf i e (List.getElem?_eq_some_iff.1 hi).1 hi
      rw [(inP_ins hq (hL e he)).2 hin] at this
      cases this

theorem pos_iff {L : List (K × Int)} {q : K} : (posL L q L.length).isNone = true ↔ ∀ e ∈ L, e.1 ≠ q := by
  constructor
  · intro h e he
    obtain ⟨i, hi⟩ := List.getElem?_of_mem he
    exact posL_none (Option.isNone_iff_eq_none.1 h) i e (List.getElem?_eq_some_iff.1 hi).1 hi
  · intro h
    cases hp : posL L q L.length with
    | none => rfl
    | some i =>
      obtain ⟨_, v, hv⟩ := posL_some hp
      exact absurd rfl (h _ (List.mem_of_getElem? hv))

theorem forkB_iff {L : List (K × Int)} {q : K} (hL : ∀ e ∈ L, e.1.Ok) (hq : q.Ok) (h32 : q.n < 32) : forkB L q = true ↔ Forks L q := by
  unfold forkB Forks
  rw [Bool.and_eq_true, Bool.and_eq_true, pos_iff, fst_iff hL (lowK_ok hq h32), fst_iff hL (highK_ok hq h32)]

/-- p cut off at the length k. -/
def cutK (p : K) (k : Nat) : K := ⟨p.x / 2 ^ (32 - k) * 2 ^ (32 - k), k⟩

theorem cutK_ok {p : K} (hp : p.Ok) {k : Nat} (hk : k ≤ 32) : (cutK p k).Ok := by
  refine ⟨hk, Nat.dvd_mul_left _ _, ?_⟩
  have := Nat.div_mul_le_self p.x (2 ^ (32 - k))
  have := hp.2.2
  show p.x / 2 ^ (32 - k) * 2 ^ (32 - k) < _
  omega

theorem cutK_in {p q : K} (hq : q.Ok) (hin : Ins p q) : cutK p q.n = q := by
  refine K.ext' ?_ rfl
  show p.x / q.s * q.s = q.x
  have hs := q.s_pos
  have hps := p.s_pos
  obtain ⟨c, hc⟩ := hq.2.1
  have h1 := hin.1
  have h2 := hin.2
  have : p.x / q.s = c := by
    refine Nat.div_eq_of_lt_le (by rw [Nat.mul_comm]; omega) ?_
    rw [Nat.succ_mul, Nat.mul_comm c]
    omega
  rw [this, hc, Nat.mul_comm]

def okP (L : List (K × Int)) (p : K) (i k : Nat) : Bool := decide (fstL L (cutK p k) L.length = some i) && forkB L (cutK p k)

theorem filter_lt {α : Type} (l : List α) (f : α → Nat) (i : Nat) : (l.filter fun x => decide (f x < i + 1)).length = (l.filter fun x => decide (f x < i)).length + (l.filter fun x => decide (f x = i)).length := by
  induction l with
  | nil => rfl
  | cons x l ih =>
    simp only [List.filter_cons]
    by_cases h1 : f x < i
    · simp [show f x < i + 1 by omega, h1, show f x ≠ i by omega]; omega
    · by_cases h2 : f x = i
      · simp [h2]; omega
      · simp [show ¬ f x < i + 1 by omega, h1, h2]; omega

def fN (L : List (K × Int)) (q : K) : Nat := (fstL L q L.length).getD L.length

/-- How many forks have their first entry ahead of the i-th. -/
def ahead (t : Tr) (i : Nat) : Nat := ((fk t).filter fun q => decide (fN (ents t) q < i)).length

theorem ahead_zero (t : Tr) : ahead t 0 = 0 := by simp [ahead]

theorem fk_first {lo hi : Nat} {t : Tr} (h : WF lo hi t) {q : K} (hq : q ∈ fk t) : ∃ i e, fstL (ents t) q (ents t).length = some i ∧ (ents t)[i]? = some e ∧ Ins e.1 q ∧ q.n < e.1.n := by
  have hL : ∀ e ∈ ents t, e.1.Ok := fun e he => (ents_in h e he).1
  have hqo := (fk_in h q hq).1
  obtain ⟨h32, g1, ⟨x, hx, hx2⟩, _⟩ := fk_forks h q hq
  have hlow : Ins (lowK q) q := ⟨Nat.le_refl _, by have := lowK_s h32; have := s_two h32; show q.x + (lowK q).s ≤ q.x + q.s; omega⟩
  have := (fst_iff hL hqo).2 ⟨x, hx, hx2.trans hlow⟩
  obtain ⟨i, hi⟩ := Option.isSome_iff_exists.1 this
  obtain ⟨_, e, he, hp⟩ := fstL_some hi
  have hm := List.mem_of_getElem? he
  have hin := (inP_ins hqo (hL e hm)).1 hp
  exact ⟨i, e, hi, he, hin, (halves (hL e hm) hqo hin (g1 e hm)).1⟩

theorem ahead_all {lo hi : Nat} {t : Tr} (h : WF lo hi t) : ahead t (ents t).length = (fk t).length := by
  unfold ahead
  rw [List.filter_eq_self.2]
  intro q hq
  obtain ⟨i, e, h1, h2, _⟩ := fk_first h hq
  have := (fstL_some h1).1
  unfold fN
  rw [h1]
  simpa using this

theorem ahead_step {lo hi : Nat} {t : Tr} (h : WF lo hi t) {i : Nat} {e : K × Int} (he : (ents t)[i]? = some e) : ahead t (i + 1) = ahead t i + ((List.range e.1.n).filter (okP (ents t) e.1 i)).length := by
  have hL : ∀ e ∈ ents t, e.1.Ok := fun e he => (ents_in h e he).1
  have heo := hL e (List.mem_of_getElem? he)
  have hil := (List.getElem?_eq_some_iff.1 he).1
  unfold ahead
  rw [filter_lt]
  congr 1
  have hmap : ((List.range e.1.n).filter (okP (ents t) e.1 i)).length = (((List.range e.1.n).filter (okP (ents t) e.1 i)).map (cutK e.1)).length := by rw [List.length_map]
  rw [hmap]
  refine List.Perm.length_eq ((List.perm_ext_iff_of_nodup ((fk_nd h).filter _) ?_).2 fun q => ?_)
  · unfold List.Nodup
    rw [List.pairwise_map]
    refine List.Pairwise.imp (fun hab he => ?_) (List.Pairwise.filter _ List.nodup_range)
    exact hab (congrArg K.n he)
  · rw [List.mem_filter, List.mem_map]
    constructor
    · rintro ⟨hq, hf⟩
      obtain ⟨j, f, h1, h2, h3, h4⟩ := fk_first h hq
      have hji : j = i := by
        unfold fN at hf
        rw [h1] at hf
        simpa using hf
      subst hji
      rw [he] at h2
      cases h2
      have hqo := (fk_in h q hq).1
      obtain ⟨h32, hfk⟩ := fk_forks h q hq
      have hc := cutK_in hqo h3
      refine ⟨q.n, List.mem_filter.2 ⟨List.mem_range.2 h4, ?_⟩, hc⟩
      unfold okP
      rw [hc, h1, (forkB_iff hL hqo h32).2 hfk]
      simp
    · rintro ⟨k, hk, rfl⟩
      obtain ⟨hk1, hk2⟩ := List.mem_filter.1 hk
      have hk3 := List.mem_range.1 hk1
      have hk4 : k < 32 := by have := heo.1; omega
      unfold okP at hk2
      simp only [Bool.and_eq_true, decide_eq_true_eq] at hk2
      have hco := cutK_ok heo (k := k) (by omega)
      refine ⟨forks_fk h hco hk4 ((forkB_iff hL hco hk4).1 hk2.2), ?_⟩
      unfold fN
      rw [hk2.1]
      simp
end Go.Proofs.Ytmnafocmbcgdiaa
