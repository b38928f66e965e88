import Derived.WalkKit
import Derived.Test.YtpdnnikkaojnkaaGreatZA
import Derived.Test.YtpdnnikkaojnkaaGreatZB
import Derived.DeepKeys5
import Derived.MapViews
import Derived.Maps.OwnSet
import Derived.Maps.OwnOps
import Derived.Maps.RangeWalk
import Derived.Deep.QuietTactic
import Derived.BigQuiet
import Derived.StillTailTactics
namespace Go.Proofs.YtpdnnikkaojnkaaGreat
set_option maxRecDepth 100000
def Ris (K : List Nat) : Prop := K.Pairwise (· < ·)
section
variable {α : Type} {key : α -> Nat} {l : List α}
def RisBy (key : α -> Nat) (l : List α) : Prop := Ris (l.map key)
end
def ordK (a b : Nat) : Int := if a < b then -1 else if b < a then 1 else 0
theorem ordK_lt (a b : Nat) : ordK a b < 0 ↔ a < b := by
 unfold ordK
 split
 ·simp_all
 ·split <;> simp_all
theorem ordK_ge (a b : Nat) : 0 <= ordK a b ↔ b <= a := by
 unfold ordK
 split
 ·simp_all
 ·split
  ·simp; omega
  ·simp; omega
end Go.Proofs.YtpdnnikkaojnkaaGreat
namespace Go.Proofs.YtpdnnikkaojnkaaGreat.Rt
open Go.Proofs.YtpdnnikkaojnkaaGreat Tri
def Nod {α κ : Type} (key : α -> κ) (L : List α) : Prop := (L.map key).Nodup
theorem nod_ne {α κ : Type} {key : α -> κ} {L : List α} (hn : Nod key L) {i j : Nat} (hi : i < L.length) (hj : j < L.length) (h : i < j) : key L[i] ≠ key L[j] :=
 List.pairwise_iff_getElem.1 (List.pairwise_map.1 hn) i j hi hj h
theorem nod_at {α κ : Type} {key : α -> κ} {L : List α} (hn : Nod key L) {i j : Nat} {a b : α} (ha : L[i]? = some a) (hb : L[j]? = some b) (h : key a = key b) : i = j := by
 obtain ⟨hi, rfl⟩ := List.getElem?_eq_some_iff.1 ha
 obtain ⟨hj, rfl⟩ := List.getElem?_eq_some_iff.1 hb
 rcases Nat.lt_trichotomy i j with h' | h' | h'
 ·exact absurd h (nod_ne hn hi hj h')
 ·exact h'
 ·exact absurd h.symm (nod_ne hn hj hi h')
theorem mem_set {α κ : Type} {key : α -> κ} {L : List α} {i : Nat} {a e x : α} (hn : Nod key L) (ha : L[i]? = some a) (hk : key a = key e) : x ∈ L.set i e ↔ x = e \/ (x ∈ L /\ key x ≠ key e) := by
 obtain ⟨hi, rfl⟩ := List.getElem?_eq_some_iff.1 ha
 constructor
 ·intro h
  obtain ⟨j, hj, rfl⟩ := List.mem_iff_getElem.1 h
  rw [List.getElem_set]
  split
  ·exact .inl rfl
  ·rename_i hne
   right
   refine ⟨List.getElem_mem _, fun h' => hne ?_⟩
   exact nod_at hn (List.getElem?_eq_getElem hi) (List.getElem?_eq_getElem (by simpa using hj)) (hk.trans h'.symm)
 ·rintro (rfl | ⟨h1, h2⟩)
  ·exact List.mem_iff_getElem.2 ⟨i, by simpa using hi, by simp⟩
  ·obtain ⟨j, hj, rfl⟩ := List.mem_iff_getElem.1 h1
   refine List.mem_iff_getElem.2 ⟨j, by simpa using hj, ?_⟩
   rw [List.getElem_set, if_neg]
   rintro rfl
   exact h2 hk
section Keyed
variable {α κ : Type} [DecidableEq κ] {key : α -> κ} {L : List α}
def lk (key : α -> κ) (L : List α) (k : κ) : Option α := L.find? fun e => decide (key e = k)
def ix (key : α -> κ) (L : List α) (k : κ) : Option Nat := L.findIdx? fun e => decide (key e = k)
def putK (key : α -> κ) (L : List α) (e : α) : List α :=
 match ix key L (key e) with
 | some i => L.set i e
 | none => L ++ [e]
def delK (key : α -> κ) (L : List α) (k : κ) : List α :=
 match ix key L k with
 | some i => L.eraseIdx i
 | none => L
theorem ix_none {k : κ} (h : ix key L k = none) : ∀ e ∈ L, key e ≠ k := by
 unfold ix at h
 rw [List.findIdx?_eq_none_iff] at h
 intro e he hk
 have := h e he
 simp [hk] at this
theorem ix_some {k : κ} {i : Nat} (h : ix key L k = some i) : ∃ e, L[i]? = some e /\ key e = k := by
 unfold ix at h
 rw [List.findIdx?_eq_some_iff_getElem] at h
 obtain ⟨hi, h1, _⟩ := h
 exact ⟨L[i], List.getElem?_eq_getElem hi, by simpa using h1⟩
theorem ix_of {k : κ} {i : Nat} {e : α} (h : L[i]? = some e) (hk : key e = k) (hn : ∀ j e', j < i -> L[j]? = some e' -> key e' ≠ k) : ix key L k = some i := by
 unfold ix
 rw [List.findIdx?_eq_some_iff_getElem]
 obtain ⟨hi, rfl⟩ := List.getElem?_eq_some_iff.1 h
 refine ⟨hi, by simpa using hk, fun j hj => ?_⟩
 have := hn j L[j] hj (List.getElem?_eq_getElem (by omega))
 simpa using this
theorem ix_of_none {k : κ} (h : ∀ e ∈ L, key e ≠ k) : ix key L k = none := by
 unfold ix
 rw [List.findIdx?_eq_none_iff]
 intro e he
 simpa using h e he
theorem lk_some {k : κ} {e : α} (h : lk key L k = some e) : e ∈ L /\ key e = k := by
 unfold lk at h
 exact ⟨List.mem_of_find?_eq_some h, by simpa using List.find?_some h⟩
theorem lk_none {k : κ} (h : lk key L k = none) : ∀ e ∈ L, key e ≠ k := fun e he => by
 unfold lk at h
 rw [List.find?_eq_none] at h
 simpa using h e he
theorem lk_mem (hn : Nod key L) {e : α} (he : e ∈ L) : lk key L (key e) = some e := by
 cases h : lk key L (key e) with
 | none => exact absurd rfl (lk_none h e he)
 | some x =>
  obtain ⟨h1, h2⟩ := lk_some h
  obtain ⟨i, hi, rfl⟩ := List.mem_iff_getElem.1 h1
  obtain ⟨j, hj, rfl⟩ := List.mem_iff_getElem.1 he
  have : i = j := by
   rcases Nat.lt_trichotomy i j with h | h | h
   ·exact absurd h2 (nod_ne hn hi hj h)
   ·exact h
   ·exact absurd h2.symm (nod_ne hn hj hi h)
  subst this
  rfl
theorem lk_iff (hn : Nod key L) {k : κ} {e : α} : lk key L k = some e ↔ e ∈ L /\ key e = k :=
 ⟨lk_some, fun ⟨h1, h2⟩ => by rw [<- h2]; exact lk_mem hn h1⟩
theorem lk_isNone {k : κ} (h : ∀ e ∈ L, key e ≠ k) : lk key L k = none := by
 unfold lk
 rw [List.find?_eq_none]
 intro e he
 simpa using h e he
theorem ix_lk (k : κ) : (ix key L k).isSome = (lk key L k).isSome := by
 unfold ix lk
 induction L with
 | nil => rfl
 | cons a l ih =>
  rw [List.findIdx?_cons, List.find?_cons]
  by_cases h : key a = k
  ·simp [h]
  ·simp [h, ih]
theorem ix_at {k : κ} {i : Nat} (h : ix key L k = some i) (hn : Nod key L) : lk key L k = L[i]? := by
 obtain ⟨e, h1, h2⟩ := ix_some h
 rw [h1]
 exact (lk_iff hn).2 ⟨List.mem_of_getElem? h1, h2⟩
theorem Nod.put (hn : Nod key L) (e : α) : Nod key (putK key L e) := by
 unfold putK
 split
 ·rename_i i h
  obtain ⟨a, h1, h2⟩ := ix_some h
  have : (L.set i e).map key = L.map key := by
   rw [List.map_set]
   apply List.ext_getElem?
   intro j
   rw [List.getElem?_set]
   split
   ·rename_i hij
    subst hij
    obtain ⟨hi, rfl⟩ := List.getElem?_eq_some_iff.1 h1
    simp [hi, h2]
   ·rfl
  unfold Nod
  rw [this]; exact hn
 ·rename_i h
  unfold Nod
  rw [List.map_append, List.nodup_append]
  refine ⟨hn, by simp, fun a ha b hb => ?_⟩
  obtain ⟨x, hx, rfl⟩ := List.mem_map.1 ha
  simp only [List.map_cons, List.map_nil, List.mem_singleton] at hb
  rw [hb]
  exact ix_none h x hx
theorem mem_put (hn : Nod key L) {e x : α} : x ∈ putK key L e ↔ x = e \/ (x ∈ L /\ key x ≠ key e) := by
 unfold putK
 split
 ·rename_i i h
  obtain ⟨a, h1, h2⟩ := ix_some h
  exact mem_set hn h1 h2
 ·rename_i h
  simp only [List.mem_append, List.mem_singleton]
  constructor
  ·rintro (h' | h')
   ·exact .inr ⟨h', ix_none h x h'⟩
   ·exact .inl h'
  ·rintro (h' | ⟨h', _⟩)
   ·exact .inr h'
   ·exact .inl h'
theorem Nod.del (hn : Nod key L) (k : κ) : Nod key (delK key L k) := by
 unfold delK
 split
 ·unfold Nod
  exact List.Pairwise.sublist (List.Sublist.map _ (List.eraseIdx_sublist _ _)) hn
 ·exact hn
theorem mem_del (hn : Nod key L) {k : κ} {x : α} : x ∈ delK key L k ↔ x ∈ L /\ key x ≠ k := by
 unfold delK
 split
 ·rename_i i h
  obtain ⟨a, h1, h2⟩ := ix_some h
  constructor
  ·intro hx
   rw [List.mem_eraseIdx_iff_getElem?] at hx
   obtain ⟨j, hj, he⟩ := hx
   refine ⟨List.mem_of_getElem? he, fun e => hj ?_⟩
   exact nod_at hn he h1 (e.trans h2.symm)
  ·rintro ⟨hx, hk⟩
   rw [List.mem_eraseIdx_iff_getElem?]
   obtain ⟨j, hj, rfl⟩ := List.mem_iff_getElem.1 hx
   refine ⟨j, ?_, List.getElem?_eq_getElem hj⟩
   rintro rfl
   rw [List.getElem?_eq_getElem hj] at h1
   exact hk (by rw [Option.some.inj h1]; exact h2)
 ·rename_i h
  exact ⟨fun hx => ⟨hx, ix_none h x hx⟩, fun hx => hx.1⟩
theorem lk_put (hn : Nod key L) (e : α) (k : κ) : lk key (putK key L e) k = if k = key e then some e else lk key L k := by
 split
 ·rename_i h
  rw [h]
  exact lk_mem (hn.put e) ((mem_put hn).2 (.inl rfl))
 ·rename_i h
  cases hl : lk key L k with
  | none =>
   refine lk_isNone fun x hx => ?_
   rcases (mem_put hn).1 hx with rfl | ⟨h1, _⟩
   ·exact fun e => h e.symm
   ·exact lk_none hl x h1
  | some x =>
   obtain ⟨h1, h2⟩ := lk_some hl
   exact (lk_iff (hn.put e)).2 ⟨(mem_put hn).2 (.inr ⟨h1, fun e' => h (h2.symm.trans e')⟩), h2⟩
theorem lk_del (hn : Nod key L) (k0 k : κ) : lk key (delK key L k0) k = if k = k0 then none else lk key L k := by
 split
 ·rename_i h
  rw [h]
  exact lk_isNone fun x hx => ((mem_del hn).1 hx).2
 ·rename_i h
  cases hl : lk key L k with
  | none => exact lk_isNone fun x hx => lk_none hl x ((mem_del hn).1 hx).1
  | some x =>
   obtain ⟨h1, h2⟩ := lk_some hl
   exact (lk_iff (hn.del k0)).2 ⟨(mem_del hn).2 ⟨h1, fun e' => h (h2.symm.trans e')⟩, h2⟩
theorem len_put (e : α) : (putK key L e).length = if (lk key L (key e)).isSome then L.length else L.length + 1 := by
 rw [<- ix_lk]
 unfold putK
 split
 ·rename_i i h; rw [h]; simp
 ·rename_i h; rw [h]; simp
theorem len_del_le (k : κ) : (delK key L k).length <= L.length := by
 unfold delK
 split
 ·exact (List.eraseIdx_sublist _ _).length_le
 ·exact nL
theorem len_del (k : κ) : (delK key L k).length = if (lk key L k).isSome then L.length - 1 else L.length := by
 rw [<- ix_lk]
 unfold delK
 split
 ·rename_i i h
  obtain ⟨a, h1, _⟩ := ix_some h
  have := (List.getElem?_eq_some_iff.1 h1).1
  rw [h]; simp [List.length_eraseIdx, this]
 ·rename_i h; rw [h]; simp
end Keyed
def SrtK {α : Type} (num : α -> Nat) (S L : List α) : Prop := RisBy num S /\ ∀ e, e ∈ S ↔ e ∈ L
theorem srtK_eq {α : Type} {num : α -> Nat} {S T L : List α} (h1 : SrtK num S L) (h2 : SrtK num T L) : S = T := by
 have key : ∀ {A B : List α}, RisBy num A -> RisBy num B -> (∀ e, e ∈ A ↔ e ∈ B) -> A = B := by
  intro A
  induction A with
  | nil =>
   intro B _ _ h
   cases B with
   | nil => rfl
   | cons b B => exact absurd ((h b).2 List.mem_cons_self) (by simp)
  | cons a A ih =>
   intro B hA hB h
   cases B with
   | nil => exact absurd ((h a).1 List.mem_cons_self) (by simp)
   | cons b B =>
    have hA' : (∀ x ∈ A, num a < num x) /\ RisBy num A := by
     unfold RisBy Ris at hA
     rw [List.map_cons, List.pairwise_cons] at hA
     exact ⟨fun x hx => hA.1 _ (List.mem_map_of_mem hx), hA.2⟩
    have hB' : (∀ x ∈ B, num b < num x) /\ RisBy num B := by
     unfold RisBy Ris at hB
     rw [List.map_cons, List.pairwise_cons] at hB
     exact ⟨fun x hx => hB.1 _ (List.mem_map_of_mem hx), hB.2⟩
    have hab : a = b := by
     rcases List.mem_cons.1 ((h a).1 List.mem_cons_self) with e | h3
     ·exact e
     ·rcases List.mem_cons.1 ((h b).2 List.mem_cons_self) with e | h4
      ·exact e.symm
      ·have := hB'.1 a h3; have := hA'.1 b h4; omega
    subst hab
    congr 1
    refine ih hA'.2 hB'.2 fun e => ?_
    constructor
    ·intro he
     rcases List.mem_cons.1 ((h e).1 (List.mem_cons_of_mem _ he)) with e' | h'
     ·have := hA'.1 e he; rw [e'] at this; omega
     ·exact h'
    ·intro he
     rcases List.mem_cons.1 ((h e).2 (List.mem_cons_of_mem _ he)) with e' | h'
     ·have := hB'.1 e he; rw [e'] at this; omega
     ·exact h'
 exact key h1.1 h2.1 fun e => (h1.2 e).trans (h2.2 e).symm
theorem nodup_le {α : Type} : ∀ {A B : List α}, A.Nodup -> (∀ x ∈ A, x ∈ B) -> A.length <= B.length
 | [], _, _, _ => Nat.zero_le _
 | a :: A, B, h, hs => by
  classical
  rw [List.nodup_cons] at h
  have ha := hs a List.mem_cons_self
  have h1 := nodup_le (A := A) (B := B.erase a) h.2 fun x hx => (List.mem_erase_of_ne (fun e => h.1 (by rw [<- e]; exact hx))).2 (hs x (List.mem_cons_of_mem _ hx))
  rw [List.length_erase_of_mem ha] at h1
  have := List.length_pos_of_mem ha
  rw [List.length_cons]
  omega
theorem SrtK.len {α : Type} {num : α -> Nat} {S L : List α} (h : SrtK num S L) (hn : L.Nodup) : S.length = L.length := by
 have hS : S.Nodup := by
  have := h.1
  unfold RisBy Ris at this
  rw [List.pairwise_map] at this
  exact this.imp fun hlt e => by rw [e] at hlt; omega
 have h1 : S.length <= L.length := nodup_le hS fun e he => (h.2 e).1 he
 have h2 : L.length <= S.length := nodup_le hn fun e he => (h.2 e).2 he
 omega
structure Mc where
 b0 : Nat
 b1 : Nat
 b2 : Nat
 b3 : Nat
 b4 : Nat
 b5 : Nat
deriving DecidableEq
structure Nb where
 ip : Nat
 mac : Mc
deriving DecidableEq
structure Fd where
 mac : Mc
 dest : Nat
deriving DecidableEq
def Mc.L (m : Mc) : List Nat := [m.b0, m.b1, m.b2, m.b3, m.b4, m.b5]
def Mc.Ok (m : Mc) : Prop := ∀ x ∈ m.L, x < 256
def wtL : List Nat -> Nat
 | [] => 0
 | a :: l => a * 256 ^ l.length + wtL l
def Mc.num (m : Mc) : Nat := wtL m.L
theorem Mc.num_eq (m : Mc) : m.num = m.b0 * 1099511627776 + m.b1 * 4294967296 + m.b2 * 16777216 + m.b3 * 65536 + m.b4 * 256 + m.b5 := by
 simp [Mc.num, Mc.L, wtL]; omega
theorem Mc.lt (m : Mc) (h : m.Ok) : m.b0 < 256 /\ m.b1 < 256 /\ m.b2 < 256 /\ m.b3 < 256 /\ m.b4 < 256 /\ m.b5 < 256 := by
 refine ⟨h _ ?_, h _ ?_, h _ ?_, h _ ?_, h _ ?_, h _ ?_⟩ <;> simp [Mc.L]
theorem Mc.num_inj {m n : Mc} (hm : m.Ok) (hn : n.Ok) (h : m.num = n.num) : m = n := by
 have h1 := m.lt hm
 have h2 := n.lt hn
 rw [m.num_eq, n.num_eq] at h
 obtain ⟨e0, e1, e2, e3, e4, e5⟩ : m.b0 = n.b0 /\ m.b1 = n.b1 /\ m.b2 = n.b2 /\ m.b3 = n.b3 /\ m.b4 = n.b4 /\ m.b5 = n.b5 := by omega
 cases m; cases n; simp_all
def Tri.Vt.key (v : Vt) : Nat × Int := (v.x, v.n)
def Tri.Vt.num (v : Vt) : Nat := v.x * 64 + v.n.toNat
def valB (x : Nat) (y : Int) : Bool := decide (0 <= y /\ y <= 32 /\ x % 2 ^ (32 - y.toNat) = 0)
def Tri.Vt.Ok (v : Vt) : Prop := valB v.x v.n = true /\ v.x < 4294967296 /\ v.via < 4294967296
def Tri.Vt.k (v : Vt) : K := ⟨v.x, v.n.toNat⟩
theorem Vt_k_ok {v : Vt} (h : v.Ok) : v.k.Ok /\ v.n = (v.k.n : Int) := by
 obtain ⟨h1, h2, _⟩ := h
 unfold valB at h1
 simp only [decide_eq_true_eq] at h1
 exact ⟨⟨by show v.n.toNat <= 32; omega, Nat.dvd_of_mod_eq_zero h1.2.2, h2⟩, by show v.n = (v.n.toNat : Int); omega⟩
theorem Vt_num_lt {v u : Vt} (hv : v.Ok) (hu : u.Ok) : v.num < u.num ↔ v.x < u.x \/ (v.x = u.x /\ v.n < u.n) := by
 have h1 := hv.1
 have h2 := hu.1
 unfold valB at h1 h2
 simp only [decide_eq_true_eq] at h1 h2
 unfold Tri.Vt.num
 omega
theorem Vt_num_inj {v u : Vt} (hv : v.Ok) (hu : u.Ok) (h : v.num = u.num) : v.key = u.key := by
 have h1 := hv.1
 have h2 := hu.1
 unfold valB at h1 h2
 simp only [decide_eq_true_eq] at h1 h2
 unfold Tri.Vt.num at h
 unfold Tri.Vt.key
 have : v.x = u.x /\ v.n = u.n := by omega
 rw [this.1, this.2]
structure Opv where
 kind : Int
 r : Vt
 n : Nb
 f : Fd
structure Ks where
 R : List Vt
 N : List Nb
 F : List Fd
 cr : Nat
 cn : Nat
 cf : Nat
structure Ks.Ok (s : Ks) : Prop where
 rn : Nod Tri.Vt.key s.R
 rk : ∀ v ∈ s.R, v.Ok
 rl : s.R.length <= s.cr /\ s.cr <= 256
 nn : Nod Nb.ip s.N
 nk : ∀ e ∈ s.N, e.ip < 4294967296 /\ e.mac.Ok
 nl : s.N.length <= s.cn /\ s.cn <= 256
 fn : Nod Fd.mac s.F
 fk : ∀ e ∈ s.F, e.mac.Ok /\ e.dest < 4294967296
 fl : s.F.length <= s.cf /\ s.cf <= 256
structure Opv.Ok (o : Opv) : Prop where
 kl : -9223372036854775808 <= o.kind /\ o.kind <= 9223372036854775807
 rx : o.r.x < 4294967296
 rn : -9223372036854775808 <= o.r.n /\ o.r.n <= 9223372036854775807
 rv : o.r.via < 4294967296
 ni : o.n.ip < 4294967296
 nm : o.n.mac.Ok
 fm : o.f.mac.Ok
 fd : o.f.dest < 4294967296
def oneE (s : Ks) (o : Opv) : Int :=
 if o.kind = 1 then (if !valB o.r.x o.r.n || (o.r.loc && o.r.via != 0) then 93 else if (lk Tri.Vt.key s.R o.r.key).isSome then 0 else if s.cr <= s.R.length then 4 else 0)
 else if o.kind = 2 then (if !valB o.r.x o.r.n then 93 else 0)
 else if o.kind = 3 then (if (lk Nb.ip s.N o.n.ip).isSome then 0 else if s.cn <= s.N.length then 4 else 0)
 else if o.kind = 4 then 0
 else if o.kind = 5 then (if (lk Fd.mac s.F o.f.mac).isSome then 0 else if s.cf <= s.F.length then 4 else 0)
 else if o.kind = 6 then 0
 else 93
def oneS (s : Ks) (o : Opv) : Ks :=
 if oneE s o ≠ 0 then s
 else if o.kind = 1 then { s with R := putK Tri.Vt.key s.R o.r }
 else if o.kind = 2 then { s with R := delK Tri.Vt.key s.R o.r.key }
 else if o.kind = 3 then { s with N := putK Nb.ip s.N o.n }
 else if o.kind = 4 then { s with N := delK Nb.ip s.N o.n.ip }
 else if o.kind = 5 then { s with F := putK Fd.mac s.F o.f }
 else { s with F := delK Fd.mac s.F o.f.mac }
def doN (s : Ks) : List Opv -> Nat
 | [] => 0
 | o :: l => if oneE s o = 0 then doN (oneS s o) l + 1 else 0
def doE (s : Ks) : List Opv -> Int
 | [] => 0
 | o :: l => if oneE s o = 0 then doE (oneS s o) l else oneE s o
def doS (s : Ks) : List Opv -> Ks
 | [] => s
 | o :: l => if oneE s o = 0 then doS (oneS s o) l else s
theorem Ks.Ok.one {s : Ks} (h : s.Ok) {o : Opv} (ho : o.Ok) : (oneS s o).Ok := by
 unfold oneS
 split
 ·exact h
 ·rename_i h0
  simp only [ne_eq, Decidable.not_not] at h0
  unfold oneE at h0
  split
  ·rename_i h1
   rw [if_pos h1] at h0
   have hv : o.r.Ok := by
    cases hb : valB o.r.x o.r.n with
    | false => rw [hb] at h0; simp at h0
    | true => exact ⟨hb, ho.rx, ho.rv⟩
   have hc : (putK Tri.Vt.key s.R o.r).length <= s.cr := by
    rw [len_put]
    split
    ·exact h.rl.1
    ·rename_i hl
     simp only [hl] at h0
     split at h0
     ·simp at h0
     ·simp only [Bool.false_eq_true, if_false] at h0
      split at h0
      ·simp at h0
      ·omega
   exact ⟨h.rn.put _, fun v hv' => by rcases (mem_put h.rn).1 hv' with rfl | hv'; exact hv; exact h.rk v hv'.1, ⟨hc, h.rl.2⟩, h.nn, h.nk, h.nl, h.fn, h.fk, h.fl⟩
  ·split
   ·refine ⟨h.rn.del _, fun v hv' => h.rk v ((mem_del h.rn).1 hv').1, ⟨?_, h.rl.2⟩, h.nn, h.nk, h.nl, h.fn, h.fk, h.fl⟩
    exact Nat.le_trans (len_del_le _) h.rl.1
   ·split
    ·rename_i h1 h2 h3
     rw [if_neg h1, if_neg h2, if_pos h3] at h0
     have hc : (putK Nb.ip s.N o.n).length <= s.cn := by
      rw [len_put]
      split
      ·exact h.nl.1
      ·rename_i hl
       rw [if_neg hl] at h0
       split at h0
       ·simp at h0
       ·omega
     exact ⟨h.rn, h.rk, h.rl, h.nn.put _, fun v hv' => by rcases (mem_put h.nn).1 hv' with rfl | hv'; exact ⟨ho.ni, ho.nm⟩; exact h.nk v hv'.1, ⟨hc, h.nl.2⟩, h.fn, h.fk, h.fl⟩
    ·split
     ·refine ⟨h.rn, h.rk, h.rl, h.nn.del _, fun v hv' => h.nk v ((mem_del h.nn).1 hv').1, ⟨?_, h.nl.2⟩, h.fn, h.fk, h.fl⟩
      exact Nat.le_trans (len_del_le _) h.nl.1
     ·split
      ·rename_i h1 h2 h3 h4 h5
       rw [if_neg h1, if_neg h2, if_neg h3, if_neg h4, if_pos h5] at h0
       have hc : (putK Fd.mac s.F o.f).length <= s.cf := by
        rw [len_put]
        split
        ·exact h.fl.1
        ·rename_i hl
         rw [if_neg hl] at h0
         split at h0
         ·simp at h0
         ·omega
       exact ⟨h.rn, h.rk, h.rl, h.nn, h.nk, h.nl, h.fn.put _, fun v hv' => by rcases (mem_put h.fn).1 hv' with rfl | hv'; exact ⟨ho.fm, ho.fd⟩; exact h.fk v hv'.1, ⟨hc, h.fl.2⟩⟩
      ·refine ⟨h.rn, h.rk, h.rl, h.nn, h.nk, h.nl, h.fn.del _, fun v hv' => h.fk v ((mem_del h.fn).1 hv').1, ⟨?_, h.fl.2⟩⟩
       exact Nat.le_trans (len_del_le _) h.fl.1
end Go.Proofs.YtpdnnikkaojnkaaGreat.Rt
namespace Go.Proofs.YtpdnnikkaojnkaaGreat.Rt
open Go.Proofs.YtpdnnikkaojnkaaGreat Go.ChangeShapes Go.WideShapes Go.ChangeAt Go.RowKit Go.Maps Go.WideMaps Tri
set_option maxHeartbeats 2000000
set_option maxRecDepth 100000
structure Sg (κ ε : Type) where
 kT : TypeId
 eT : TypeId
 mT : TypeId
 kV : κ -> Value
 kL : κ -> Lit
 kOk : κ -> Prop
 eV : ε -> Value
 eD : ε -> DataW Unit
 R : Value -> Option (DataW Unit × List MemPlace)
 z : ε
 law : Keyed Tryz.prog kT
 um : Tryz.prog.underlying mT = some (.map kT eT)
 zero : ∀ w, (zeroValue eT).run Tryz.prog w = .ok (eV z) w
 key : ∀ k, kOk k -> keyOf Tryz.prog kT (kV k) = some (kL k)
 linj : ∀ a b, kOk a -> kOk b -> kL a = kL b -> a = b
 read : ∀ e, R (eV e) = some (eD e, [])
 held : ∀ v e ps, R v = some (eD e, ps) -> v = eV e
 einv : ∀ v y, R v = some y -> ∃ e, v = eV e
variable {κ ε : Type} {G : Sg κ ε}
theorem tight {k : TypeId} {R : Value -> Option (DataW Unit × List MemPlace)} {w : World} {bm n : Nat} {D : DataW Unit} (h : w.ownsMap Tryz.prog k R bm n D) : w.ownsMap Tryz.prog k R bm (Maps.size D) D := by
 obtain ⟨es, clock, hb, F, hs, hD⟩ := h
 refine ⟨es, clock, hb, F, ?_, hD⟩
 rw [hD]
 show es.size <= (List.foldr DataW.insert [] _).length
 rw [length_sorted]
 simp
def Says (G : Sg κ ε) (D : DataW Unit) (f : κ -> Option ε) : Prop :=
 ∀ k, G.kOk k -> Maps.has D (G.kL k) = (f k).isSome /\ D.atKey (G.kL k) (G.eD G.z) = G.eD ((f k).getD G.z)
def Cl (G : Sg κ ε) (D : DataW Unit) : Prop := ∀ kl, Maps.has D kl = true -> ∃ k, G.kOk k /\ kl = G.kL k
def MapG (G : Sg κ ε) (w : World) (bm : Nat) (f : κ -> Option ε) (c : Nat) : Prop :=
 ∃ D : DataW Unit, w.ownsMap Tryz.prog G.kT G.R bm c D /\ Maps.size D = c /\ Says G D f /\ Cl G D
theorem MapG.made (G : Sg κ ε) (w : World) : MapG G (w.alloc (.map #[] 0)) w.heap.size (fun _ => none) 0 :=
 ⟨.map [], World.ownsMap_made w _ _ _, rfl, fun _ _ => ⟨rfl, rfl⟩, fun kl h => by cases h⟩
theorem MapG.lt {w : World} {bm c : Nat} {f : κ -> Option ε} (h : MapG G w bm f c) : bm < w.heap.size := by
 obtain ⟨D, h1, _⟩ := h
 exact h1.lt
theorem MapG.kept {w w' : World} {bm c : Nat} {f : κ -> Option ε} (h : MapG G w bm f c) (hb : w'.heap[bm]? = w.heap[bm]?) : MapG G w' bm f c := by
 obtain ⟨D, ⟨es, clock, h0, F, hs, hD⟩, h2, h3⟩ := h
 exact ⟨D, ⟨es, clock, hb.trans h0, F, hs, hD⟩, h2, h3⟩
theorem MapG.congr {w : World} {bm c c' : Nat} {f g : κ -> Option ε} (h : MapG G w bm f c) (hc : c = c') (hg : ∀ x, f x = g x) : MapG G w bm g c' := by
 have : f = g := funext hg
 rw [<- hc, <- this]; exact h
theorem MapG.store [DecidableEq κ] {w : World} {bm c : Nat} {f : κ -> Option ε} (h : MapG G w bm f c) (hc : c < 1000000) {k : κ} (hk : G.kOk k) (e : ε) :
  ∃ w', (Instr.mapUpdate G.mT (.map (some bm)) (G.kV k) (G.eV e)).run Tryz.prog w = .ok () w' /\ MapG G w' bm (fun y => if y = k then some e else f y) (if (f k).isSome then c else c + 1) /\ w.mapTurned w' bm := by
 obtain ⟨D, h1, h2, h3, h4⟩ := h
 obtain ⟨w', hr, ho, ht⟩ := h1.store G.law G.um (by unfold maxLen; omega) (G.key k hk) (G.read e)
 have htd := h1.tidy G.law
 have hsz : Maps.size (D.put (G.kL k) (G.eD e)) = if (f k).isSome then c else c + 1 := by
  rw [size_put htd, (h3 k hk).1, h2]
 have hcl : Cl G (D.put (G.kL k) (G.eD e)) := fun kl hkl => by
  by_cases hkk : kl = G.kL k
  ·exact ⟨k, hk, hkk⟩
  ·rw [has_put_other hkk] at hkl
   exact h4 kl hkl
 refine ⟨w', hr, ⟨_, by rw [<- hsz]; exact tight ho, hsz, fun y hy => ?_, hcl⟩, ht⟩
 by_cases hxy : y = k
 ·subst hxy
  exact ⟨by rw [has_put_same h1.isMap (G.law.key (G.key y hy))]; simp, by rw [atKey_put_same h1.isMap (G.law.key (G.key y hy))]; simp⟩
 ·have hne : G.kL y ≠ G.kL k := fun e => hxy (G.linj y k hy hk e)
  refine ⟨by rw [has_put_other hne, (h3 y hy).1]; simp [hxy], by rw [atKey_put_other hne, (h3 y hy).2]; simp [hxy]⟩
theorem MapG.drop [DecidableEq κ] {w : World} {bm c : Nat} {f : κ -> Option ε} (h : MapG G w bm f c) {k : κ} (hk : G.kOk k) (ty : TypeId) :
  ∃ w', (Builtin.delete_ #[G.mT, G.kT] ty #[.map (some bm), G.kV k]).run Tryz.prog w = .ok (.tuple #[]) w' /\ MapG G w' bm (fun y => if y = k then none else f y) (if (f k).isSome then c - 1 else c) /\ w.mapTurned w' bm := by
 obtain ⟨D, h1, h2, h3, h4⟩ := h
 obtain ⟨w', hr, ho, ht⟩ := h1.drop G.law G.um (G.key k hk) ty
 have hsz : Maps.size (D.del (G.kL k)) = if (f k).isSome then c - 1 else c := by
  have := size_del (k := G.kL k) (h1.tidy G.law)
  rw [(h3 k hk).1, h2] at this
  cases hf : (f k).isSome with
  | false => rw [hf] at this; simp at this; simp; omega
  | true => rw [hf] at this; simp at this; simp; omega
 have hcl : Cl G (D.del (G.kL k)) := fun kl hkl => by
  by_cases hkk : kl = G.kL k
  ·exact ⟨k, hk, hkk⟩
  ·rw [has_del_other hkk] at hkl
   exact h4 kl hkl
 refine ⟨w', hr, ⟨_, by rw [<- hsz]; exact tight ho, hsz, fun y hy => ?_, hcl⟩, ht⟩
 by_cases hxy : y = k
 ·subst hxy
  exact ⟨by rw [has_del_same]; simp, by rw [atKey_del_same]; simp⟩
 ·have hne : G.kL y ≠ G.kL k := fun e => hxy (G.linj y k hy hk e)
  refine ⟨by rw [has_del_other hne, (h3 y hy).1]; simp [hxy], by rw [atKey_del_other hne, (h3 y hy).2]; simp [hxy]⟩
theorem MapG.look {w : World} {bm c : Nat} {f : κ -> Option ε} (h : MapG G w bm f c) {k : κ} (hk : G.kOk k) :
  (Instr.lookup G.mT (.map (some bm)) (G.kV k) true).run Tryz.prog w = .ok (.tuple #[G.eV ((f k).getD G.z), .bool (f k).isSome]) w := by
 obtain ⟨D, h1, _, h3, _⟩ := h
 obtain ⟨v, ps, hr, hv⟩ := h1.look_ok G.law G.um (G.zero w) (G.read G.z) (G.key k hk)
 rw [(h3 k hk).1] at hr
 rw [(h3 k hk).2] at hv
 rw [hr, G.held _ _ _ hv]
theorem MapG.look1 {w : World} {bm c : Nat} {f : κ -> Option ε} (h : MapG G w bm f c) {k : κ} (hk : G.kOk k) :
  (Instr.lookup G.mT (.map (some bm)) (G.kV k) false).run Tryz.prog w = .ok (G.eV ((f k).getD G.z)) w := by
 obtain ⟨D, h1, _, h3, _⟩ := h
 obtain ⟨v, ps, hr, hv⟩ := h1.lookup G.law G.um (G.zero w) (G.read G.z) (G.key k hk)
 rw [(h3 k hk).2] at hv
 rw [hr, G.held _ _ _ hv]
theorem MapG.len {w : World} {bm c : Nat} {f : κ -> Option ε} (h : MapG G w bm f c) (ty : TypeId) : (Builtin.len_ #[G.mT] ty #[.map (some bm)]).run Tryz.prog w = .ok (.int .i64 (c : Int)) w := by
 obtain ⟨D, h1, h2, _, _⟩ := h
 rw [h1.len G.um ty, h2]
def Nb.cells (n : Nb) : Array Value := #[.int .u32 (n.ip : Int), .int .u8 (n.mac.b0 : Int), .int .u8 (n.mac.b1 : Int), .int .u8 (n.mac.b2 : Int), .int .u8 (n.mac.b3 : Int), .int .u8 (n.mac.b4 : Int), .int .u8 (n.mac.b5 : Int)]
def Fd.cells (f : Fd) : Array Value := #[.int .u8 (f.mac.b0 : Int), .int .u8 (f.mac.b1 : Int), .int .u8 (f.mac.b2 : Int), .int .u8 (f.mac.b3 : Int), .int .u8 (f.mac.b4 : Int), .int .u8 (f.mac.b5 : Int), .int .u32 (f.dest : Int)]
def Mc.v (m : Mc) : Value := .agg #[.int .u8 (m.b0 : Int), .int .u8 (m.b1 : Int), .int .u8 (m.b2 : Int), .int .u8 (m.b3 : Int), .int .u8 (m.b4 : Int), .int .u8 (m.b5 : Int)]
def nbD (n : Nb) : DataW Unit := .agg [.lit (.int .u32 (n.ip : Int)), .lit (.int .u8 (n.mac.b0 : Int)), .lit (.int .u8 (n.mac.b1 : Int)), .lit (.int .u8 (n.mac.b2 : Int)), .lit (.int .u8 (n.mac.b3 : Int)), .lit (.int .u8 (n.mac.b4 : Int)), .lit (.int .u8 (n.mac.b5 : Int))]
def nbR (v : Value) : Option (DataW Unit × List MemPlace) :=
 match v with
 | .agg cs => match cs.toList with
  | [.int .u32 (.ofNat a), .int .u8 (.ofNat b0), .int .u8 (.ofNat b1), .int .u8 (.ofNat b2), .int .u8 (.ofNat b3), .int .u8 (.ofNat b4), .int .u8 (.ofNat b5)] => some (nbD ⟨a, ⟨b0, b1, b2, b3, b4, b5⟩⟩, [])
  | _ => none
 | _ => none
theorem nbR_mk (n : Nb) : nbR (.agg n.cells) = some (nbD n, []) := rfl
theorem nbR_inv {v : Value} {y : DataW Unit × List MemPlace} (h : nbR v = some y) : ∃ n : Nb, v = .agg n.cells /\ y = (nbD n, []) := by
 unfold nbR at h
 split at h
 ·split at h
  ·rename_i cs a b0 b1 b2 b3 b4 b5 hc
   refine ⟨⟨a, ⟨b0, b1, b2, b3, b4, b5⟩⟩, ?_, by simpa using h.symm⟩
   congr 1
   exact Array.toList_inj.1 hc
  ·cases h
 ·cases h
theorem nbD_inj {m n : Nb} (h : nbD m = nbD n) : m = n := by
 simp only [nbD, DataW.agg.injEq, List.cons.injEq, DataW.lit.injEq, and_true, Lit.int.injEq, true_and, Int.ofNat_inj] at h
 obtain ⟨h1, h2, h3, h4, h5, h6, h7⟩ := h
 cases m with | mk a b => cases n with | mk c d => cases b; cases d; simp_all
def fdD (n : Fd) : DataW Unit := .agg [.lit (.int .u8 (n.mac.b0 : Int)), .lit (.int .u8 (n.mac.b1 : Int)), .lit (.int .u8 (n.mac.b2 : Int)), .lit (.int .u8 (n.mac.b3 : Int)), .lit (.int .u8 (n.mac.b4 : Int)), .lit (.int .u8 (n.mac.b5 : Int)), .lit (.int .u32 (n.dest : Int))]
def fdR (v : Value) : Option (DataW Unit × List MemPlace) :=
 match v with
 | .agg cs => match cs.toList with
  | [.int .u8 (.ofNat b0), .int .u8 (.ofNat b1), .int .u8 (.ofNat b2), .int .u8 (.ofNat b3), .int .u8 (.ofNat b4), .int .u8 (.ofNat b5), .int .u32 (.ofNat a)] => some (fdD ⟨⟨b0, b1, b2, b3, b4, b5⟩, a⟩, [])
  | _ => none
 | _ => none
theorem fdR_mk (n : Fd) : fdR (.agg n.cells) = some (fdD n, []) := rfl
theorem fdR_inv {v : Value} {y : DataW Unit × List MemPlace} (h : fdR v = some y) : ∃ n : Fd, v = .agg n.cells /\ y = (fdD n, []) := by
 unfold fdR at h
 split at h
 ·split at h
  ·rename_i cs b0 b1 b2 b3 b4 b5 a hc
   refine ⟨⟨⟨b0, b1, b2, b3, b4, b5⟩, a⟩, ?_, by simpa using h.symm⟩
   congr 1
   exact Array.toList_inj.1 hc
  ·cases h
 ·cases h
theorem fdD_inj {m n : Fd} (h : fdD m = fdD n) : m = n := by
 simp only [fdD, DataW.agg.injEq, List.cons.injEq, DataW.lit.injEq, and_true, Lit.int.injEq, true_and, Int.ofNat_inj] at h
 obtain ⟨h1, h2, h3, h4, h5, h6, h7⟩ := h
 cases m with | mk a b => cases n with | mk c d => cases a; cases c; simp_all
theorem uAd : Tryz.prog.underlying 34 = some (.int .u32) := by kernel_rfl
theorem key32 {x : Nat} (hx : x < 4294967296) : keyOf Tryz.prog 34 (.int .u32 (x : Int)) = some (.int .u32 (x : Int)) := keyOf_int_mk uAd (WalkArith.wf_u32 (by omega))
def zMc : Mc := ⟨0, 0, 0, 0, 0, 0⟩
def gN : Sg Nat Nb where
 kT := 34
 eT := 42
 mT := 118
 kV x := .int .u32 (x : Int)
 kL x := .int .u32 (x : Int)
 kOk x := x < 4294967296
 eV e := .agg e.cells
 eD := nbD
 R := nbR
 z := ⟨0, zMc⟩
 law := int_keyed uAd
 um := Tryz.underlying118
 zero w := by kernel_rfl
 key k hk := key32 hk
 linj a b _ _ h := by injection h with _ h; omega
 read := nbR_mk
 held v e ps h := by
  obtain ⟨n, rfl, hy⟩ := nbR_inv h
  rw [nbD_inj (congrArg Prod.fst hy)]
 einv v y h := by
  obtain ⟨n, rfl, _⟩ := nbR_inv h
  exact ⟨n, rfl⟩
theorem kLaidOut : laidOutB Tryz.prog = true := by kernel_rfl
theorem rowM : (40 : TypeId) < Tryz.prog.types.size := of_decide_eq_true (by kernel_rfl)
theorem deepM : Tryz.prog.keyTypeAt (Tryz.prog.types.size + 1) 40 = true := by kernel_rfl
theorem uM : Tryz.prog.underlying 40 = some (.array 6 5) := by kernel_rfl
theorem wideM : (match Tryz.prog.underlying 40 with | some (.array _ _) | some (.struct _) => true | _ => false) = true := by rw [uM]
theorem mLaw : KeyLaw Tryz.prog 40 := deep_law_laid kLaidOut (m := 3) (by omega) rowM (by kernel_rfl) wideM
theorem mKeyed : Keyed Tryz.prog 40 := Keyed.of_law mLaw
theorem Mc.v_inj {a b : Mc} (h : a.v = b.v) : a = b := by
 simp [Mc.v] at h
 obtain ⟨h1, h2, h3, h4, h5, h6⟩ := h
 cases a; cases b
 simp only [Mc.mk.injEq]
 simp only at h1 h2 h3 h4 h5 h6
 omega
theorem wf8 {x : Nat} (h : x < 256) : (Lit.int .u8 (x : Int)).wf = true := by
 show (decide (IntKind.u8.min <= (x : Int)) && decide ((x : Int) <= IntKind.u8.max)) = true
 rw [show IntKind.u8.min = 0 from by decide +kernel, show IntKind.u8.max = 255 from by decide +kernel]
 simp; omega
theorem mac_some (m : Mc) (hm : m.Ok) : ∃ l, keyOf Tryz.prog 40 m.v = some l := by
 obtain ⟨h0, h1, h2, h3, h4, h5⟩ := m.lt hm
 have w0 := wf8 h0
 have w1 := wf8 h1
 have w2 := wf8 h2
 have w3 := wf8 h3
 have w4 := wf8 h4
 have w5 := wf8 h5
 have hcell : Tryz.prog.cellsOf 40 = 6 := by kernel_rfl
 have hf : m.v.formed Tryz.prog 40 = true := by simp [Mc.v, Value.formed, hcell]
 have u8' : Tryz.prog.underlying 5 = some (.int .u8) := by kernel_rfl
 have c8 : Tryz.prog.cellsOf 5 = 1 := by kernel_rfl
 have ht : DataW.Trod (H := Unit) (fun _ => ()) Tryz.prog default 0 (fun _ => true) true 40 m.v (.agg [.lit (.int .u8 (m.b0 : Int)), .lit (.int .u8 (m.b1 : Int)), .lit (.int .u8 (m.b2 : Int)), .lit (.int .u8 (m.b3 : Int)), .lit (.int .u8 (m.b4 : Int)), .lit (.int .u8 (m.b5 : Int))]) [] := by
  refine ⟨3, ?_⟩
  simp [DataW.trod, Mc.v, Value.cells, hcell, u8', c8, w0, w1, w2, w3, w4, w5, List.range, List.range.loop, List.mapM_cons, List.mapM_nil]
 exact ⟨_, (keyOf_asKey deepM wideM hf ht).1⟩
noncomputable def Mc.l (m : Mc) : Lit := (keyOf Tryz.prog 40 m.v).getD (.bool false)
theorem Mc.l_spec {m : Mc} (hm : m.Ok) : keyOf Tryz.prog 40 m.v = some m.l := by
 obtain ⟨l, hl⟩ := mac_some m hm
 unfold Mc.l; rw [hl]; rfl
theorem Mc.l_inj {a b : Mc} (ha : a.Ok) (hb : b.Ok) (h : a.l = b.l) : a = b := by
 have h1 := Mc.l_spec ha
 have h2 := Mc.l_spec hb
 rw [h] at h1
 exact Mc.v_inj (mKeyed.inj h1 h2)
noncomputable def gF : Sg Mc Fd where
 kT := 40
 eT := 44
 mT := 126
 kV := Mc.v
 kL := Mc.l
 kOk := Mc.Ok
 eV e := .agg e.cells
 eD := fdD
 R := fdR
 z := ⟨zMc, 0⟩
 law := mKeyed
 um := Tryz.underlying126
 zero w := by kernel_rfl
 key k hk := Mc.l_spec hk
 linj a b ha hb h := Mc.l_inj ha hb h
 read := fdR_mk
 held v e ps h := by
  obtain ⟨n, rfl, hy⟩ := fdR_inv h
  rw [fdD_inj (congrArg Prod.fst hy)]
 einv v y h := by
  obtain ⟨n, rfl, _⟩ := fdR_inv h
  exact ⟨n, rfl⟩
end Go.Proofs.YtpdnnikkaojnkaaGreat.Rt
namespace Go.Proofs.YtpdnnikkaojnkaaGreat.Rt
open Go.Proofs.YtpdnnikkaojnkaaGreat Go.ChangeShapes Go.WideShapes Go.ChangeAt Go.RowKit Go.Shelf Tri N
attribute [local go_sem] Oper.semAt_some
set_option maxHeartbeats 4000000
set_option maxRecDepth 100000
namespace Tri
def lookT : Tr -> K -> Option Vt
 | .nil, _ => none
 | .node k u l r, p => if hasK k p.x then (if k = p then u.or (if side p.x k.n = 0 then lookT l p else lookT r p) else (if side p.x k.n = 0 then lookT l p else lookT r p)) else none
theorem lookT_mem {t : Tr} {p : K} {v : Vt} (h : lookT t p = some v) : (p, v) ∈ ents t := by
 induction t with
 | nil => cases h
 | node k u l r il ir =>
  have hc : (if side p.x k.n = 0 then lookT l p else lookT r p) = some v -> (p, v) ∈ ents (.node k u l r) := fun h => by
   rw [ents, List.mem_append, List.mem_append]
   split at h
   ·exact .inr (.inl (il h))
   ·exact .inr (.inr (ir h))
  rw [lookT] at h
  split at h
  ·split at h
   ·rename_i e
    cases u with
    | none => exact hc h
    | some a =>
     have : a = v := by simpa using h
     rw [ents, List.mem_append]
     exact .inl (mem_own.2 ⟨e.symm, by rw [this]⟩)
   ·exact hc h
  ·cases h
theorem lookT_of {lo hi : Nat} {t : Tr} (hW : WF lo hi t) {p : K} {v : Vt} (h : (p, v) ∈ ents t) : lookT t p = some v := by
 induction t generalizing lo hi with
 | nil => simp [ents] at h
 | node k u l r il ir =>
  have hW' := hW
  obtain ⟨ak, b, c, d, f, g⟩ := hW
  have hin := ents_in (t := .node k u l r) (lo := k.x) (hi := k.x + k.s) ⟨ak, nL, nL, d, f, g⟩ _ h
  have hps := p.s_pos
  have h2 := h2_le k
  have hks := k.s_pos
  have i1 : k.x <= p.x := hin.2.1
  have i2 : p.x + p.s <= k.x + k.s := hin.2.2
  have hk : hasK k p.x = true := by unfold hasK; simp; omega
  rw [lookT, if_pos hk]
  rw [ents, List.mem_append, List.mem_append, mem_own] at h
  have n32 : ∀ x : Nat, x + p.s <= k.x + 2 * k.h -> k.x <= x -> k.n < 32 := fun x h1 h3 => by
   rcases Nat.lt_or_ge k.n 32 with h | h
   ·exact h
   ·have := (s_last (q := k) (by have := ak.1; omega)).2
    omega
  rcases h with h | h | h
  ·rw [if_pos h.1.symm, h.2]; rfl
  ·have e1 := ents_in d _ h
   have e2 : p.x + p.s <= k.x + k.h := e1.2.2
   have hn := n32 p.x (by omega) i1
   have hne : k ≠ p := fun e => by rw [<- e] at e2; omega
   have sd := side_of ak hn i1 (by omega)
   rw [if_pos (by omega)] at sd
   rw [if_neg hne, if_pos sd]
   exact il d h
  ·have e1 := ents_in f _ h
   have e2 : k.x + k.h <= p.x := e1.2.1
   have e3 : p.x + p.s <= k.x + 2 * k.h := e1.2.2
   have hn := n32 p.x e3 i1
   have hne : k ≠ p := fun e => by rw [<- e] at e2 e3; omega
   have sd := side_of ak hn i1 (by omega)
   rw [if_neg (by omega)] at sd
   rw [if_neg hne, if_neg (by omega)]
   exact ir f h
end Tri
def MT.isK (p : K) : MT -> Option Vt
 | .nil => none
 | .node _ _ k u _ _ => if k = p then u else none
def firstK (p : K) : List MT -> Option Vt
 | [] => none
 | q :: L => (q.isK p).or (firstK p L)
theorem firstK_path (m : MT) (p : K) : firstK p (path m p.x) = lookT m.tr p := by
 induction m with
 | nil => rfl
 | node b c k u l r il ir =>
  simp only [path, MT.tr, lookT]
  cases hk : hasK k p.x with
  | false => rfl
  | true =>
   simp only [if_true, firstK, MT.isK]
   have e : firstK p (if side p.x k.n = 0 then path l p.x else path r p.x) = if side p.x k.n = 0 then lookT l.tr p else lookT r.tr p := by
    split
    ·exact il
    ·exact ir
   rw [e]
   split
   ·rfl
   ·exact Option.none_or
def NoneTo (p : K) (L : List MT) (k : Nat) : Prop := ∀ i q, i < k -> L[i]? = some q -> q.isK p = none
theorem firstK_at {p : K} {L : List MT} {k : Nat} {q : MT} {v : Vt} (hn : NoneTo p L k) (hq : L[k]? = some q) (hv : q.isK p = some v) : firstK p L = some v := by
 induction L generalizing k with
 | nil => cases hq
 | cons x L ih =>
  cases k with
  | zero =>
   obtain rfl : x = q := by simpa using hq
   rw [firstK, hv]; rfl
  | succ k =>
   have h0 := hn 0 x (by omega) rfl
   rw [firstK, h0, Option.none_or]
   exact ih (k := k) (fun i y hi hy => hn (i + 1) y (by omega) (by simpa using hy)) (by simpa using hq)
theorem firstK_none {p : K} {L : List MT} (hn : NoneTo p L L.length) : firstK p L = none := by
 induction L with
 | nil => rfl
 | cons x L ih =>
  have h0 := hn 0 x (by simp) rfl
  rw [firstK, h0, Option.none_or]
  exact ih (fun i y hi hy => hn (i + 1) y (by simpa using hi) (by simpa using hy))
def getV (o : Option Vt) : Value :=
 match o with
 | none => .tuple #[.agg #[.int .u32 0, .int .i64 0, .int .u32 0, .bool false], .int .i64 3]
 | some v => .tuple #[.agg #[.int .u32 (v.x : Int), .int .i64 v.n, .int .u32 (v.via : Int), .bool v.loc], .int .i64 0]
end Go.Proofs.YtpdnnikkaojnkaaGreat.Rt
namespace Go.Proofs.YtpdnnikkaojnkaaGreat.Rt
open Go.Proofs.YtpdnnikkaojnkaaGreat Go.ChangeShapes Go.WideShapes Go.ChangeAt Go.RowKit Go.Shelf Tri N
set_option maxHeartbeats 4000000
set_option maxRecDepth 100000
def noDefer (ops : Array Oper) : Bool := ops.all fun o => match o.op with | .defer _ => false | _ => true
theorem noDefer_at {ops : Array Oper} (h : noDefer ops = true) {i : Nat} {o : Oper} (ho : ops[i]? = some o) : ∀ c, o.op ≠ .defer c := by
 intro c hc
 unfold noDefer at h
 rw [Array.all_eq_true_iff_forall_mem] at h
 have := h o (Array.mem_of_getElem? ho)
 rw [hc] at this
 cases this
section
variable {P : Program} {C : World -> Prop} {ops : Array Oper} {l n : Nat}
theorem wpIn_of_quietR {o : Oper} {a : Act} {K : Act -> Prop} {K' : Act -> World -> Prop} {Q' : Exit -> Act -> World -> Prop} {w : World} (hnd : ∀ c, o.op ≠ .defer c) (hw : C w) (h : ∀ a w', C w' -> K a -> K' a w') (hh : o.quiet P a C K) : o.wpIn (Fence.wide.inRound l) n P a w K' Q' := by
 obtain ⟨v, h1, h2⟩ := hh
 have h3 := h1 w hw
 unfold Oper.quietAt at h3
 refine ⟨fun _ _ => trivial, ?_⟩
 rw [Fence.inRound_round, Oper.semAt_some _ _ _ hnd]
 generalize (execOp a.eval o).run P w = r at *
 cases r with
 | ok nx w' =>
  cases nx <;> simp only [Oper.quietUpon] at h3 <;> simp only [Oper.uponIn]
  case value u =>
   obtain ⟨e1, e2⟩ := h3
   rw [e1, e2]
   exact h _ _ hw h2
  case skip =>
   obtain ⟨e1, e2⟩ := h3
   rw [e1, <- e2]
   exact h _ _ hw h2
  case enter f args =>
   obtain ⟨e1, hc⟩ := h3
   rw [e1]
   refine ⟨fun h => (by cases h), ?_⟩
   have hc2 : CallsIn (Fence.wide.inRound l) (n - 1) P f args w (fun e w'' => e = .returned v /\ C w'') := (callsIn_wide (n := n - 1)).2 hc
   exact hc2.mono fun e w'' ⟨he, hw''⟩ => by subst he; exact h _ _ hw'' h2
 | halt x w' => simp only [Oper.quietUpon] at h3
theorem wpOpIn_of_qOpR {i : Nat} {a : Act} {K : Act -> Prop} {K' : Act -> World -> Prop} {Q' : Exit -> Act -> World -> Prop} {w : World} (hnd : noDefer ops = true) (hC : C w) (h : ∀ a w', C w' -> K a -> K' a w') (hh : qOp P ops C i K a) : wpOpIn (Fence.wide.inRound l) n P ops Q' i K' a w := by
 unfold qOp at hh
 unfold wpOpIn
 split
 ·rename_i ho; simp only [ho] at hh; exact h _ _ hC hh
 ·rename_i o ho
  simp only [ho] at hh
  split
  ·rename_i hw; simp only [hw, if_true] at hh; exact wpIn_of_quietR (noDefer_at hnd ho) hC h hh
  ·rename_i hw; simp only [hw] at hh; exact ⟨fun _ _ => trivial, h _ _ hC hh⟩
theorem wpAnyIn_of_quietR {md : Region.Mode} {Q : Act -> Prop} {Q' : Exit -> Act -> World -> Prop} (hnd : noDefer ops = true) (hQ : ∀ a w, C w -> Q a -> Q' .normal a w) : ∀ (fuel : Nat) (listed : Array Bool) (a : Act) (w : World), C w ->
  wpAnyQ P md ops C Q fuel listed a -> wpAnyIn (Fence.wide.inRound l) n P md ops Q' fuel listed a w
 | 0, _, _, _, hw, h => ⟨h.1, hQ _ _ hw h.2⟩
 | fuel + 1, _, _, _, hw, h => ⟨fun h0 => hQ _ _ hw (h.1 h0), fun i hi => wpOpIn_of_qOpR hnd hw (fun a' w' hw' => wpAnyIn_of_quietR hnd hQ fuel _ a' w' hw') (h.2 i hi)⟩
theorem wpIn_region_quietR {id : Nat} {Q : Exit -> Act -> World -> Prop} {a : Act} {w : World} (hm : P.follows .mixedOrders = true) (hB : Region.lexB .any ops = true) (hnd : noDefer ops = true) (hC : C { w with drawn := w.drawn + 1 })
  (h : wpQuiet P ops C (fun a' => ∀ w', C w' -> Q .normal a' w') ops.toList a) : (Code.region id ops true).wpIn (Fence.wide.inRound l) n P Q a w := by
 simp only [Region.lexB, Bool.and_eq_true] at hB
 refine wpIn_region_any hm (wpAnyIn_of_quietR (Q := fun a' => ∀ w', C w' -> Q .normal a' w') hnd (fun _ w' hw' h => h w' hw') _ _ _ _ hC ?_)
 have := wpAnyQ_lex (C := C) (md := .any) hB.1 ops.toList 0 (Array.replicate ops.size false) a (by simp) (by simpa using hB.2) h
 simpa using this
end
theorem wpIn_region_behR {l n : Nat} {P : Program} {id : Nat} {Q : Exit -> Act -> World -> Prop} {a : Act} {w : World} {ops : List Oper} (hm : P.follows .mixedOrders = true) (hB : Region.lexB .any ops.toArray = true) (hnd : noDefer ops.toArray = true)
  (h : wpQuiet P ops.toArray (fun w' => ∃ u : Beh w, w' = u.wd) (fun a' => ∀ w', (∃ u : Beh w, w' = u.wd) -> Q .normal a' w') ops a) : (Code.region id ops.toArray true).wpIn (Fence.wide.inRound l) n P Q a w :=
 wpIn_region_quietR (C := fun w' => ∃ u : Beh w, w' = u.wd) hm hB hnd ⟨⟨_, below_drewN bR 1⟩, rfl⟩ (by simpa using h)
attribute [local go_sem] Oper.semAt_some
theorem ownFrom_belowG {β : Type} {B : Nat} {I : β -> World -> Prop} (hs : ∀ k W, I k W -> B <= W.heap.size) (h : ∀ k W W', I k W -> Below B W W' -> I k W') : OwnFrom B I := fun k W W' row hi hg hr =>
 h k W W' hi ⟨hg.os, hg.tape, hg.output, hg.size, fun j hj => hg.block j (Nat.lt_of_lt_of_le hj (hs k W hi)) (fun e => by have := (hr j e.symm).1; omega)⟩
theorem get_any {X : Nat -> Prop} {tb : Nat} {t : Tr} (p : K) (w : World) (hT : TrieAt w X tb t) (hp : p.Ok) :
  Calls Tryz.prog 146 #[.pointer (some ⟨tb, 0, none⟩), pv p] w fun e w' => e = .returned (getV (lookT t p)) /\ Below w.heap.size w w' := by
 obtain ⟨hmem, hlt, ⟨m, hrow, hmt, hL⟩, hwf⟩ := hT
 have hlt0 := (gsl hrow)
 obtain ⟨w3, hw3⟩ : ∃ w3, w3 = (((w.alloc (.cells #[.int .u32 (p.x : Int), .int .i64 (p.n : Int)] 36)).alloc (.cells #[.int .u32 0, .int .i64 0, .int .u32 0, .bool false] 38)).alloc (.cells #[.int .i64 0] 27)).alloc (.cells #[.int .u32 0, .int .i64 0, .int .u32 0, .bool false] 38) := ⟨_, rfl⟩
 have b03 : Below w.heap.size w w3 := by rw [hw3]; exact (((bR.alloc nL _).alloc (by simp) _).alloc (by simp; omega) _).alloc (by simp; omega) _
 have hs3 : w3.heap.size = w.heap.size + 4 := by rw [hw3]; simp
 have r0 : w3.heap[w.heap.size]? = some (.cells #[.int .u32 (p.x : Int), .int .i64 (p.n : Int)] 36) := by
  rw [hw3, Below.heap_alloc _ _ _ (by simp <;> omega), Below.heap_alloc _ _ _ (by simp <;> omega), Below.heap_alloc _ _ _ (by simp <;> omega)]; exact heap_alloc_new w _
 have r1 : w3.heap[w.heap.size + 1]? = some (.cells #[.int .u32 0, .int .i64 0, .int .u32 0, .bool false] 38) := by
  have h := heap_alloc_new (w.alloc (.cells #[.int .u32 (p.x : Int), .int .i64 (p.n : Int)] 36)) (.cells #[.int .u32 0, .int .i64 0, .int .u32 0, .bool false] 38)
  rw [World.size_alloc] at h
  rw [hw3, Below.heap_alloc _ _ _ (by simp <;> omega), Below.heap_alloc _ _ _ (by simp <;> omega)]; exact h
 have r2 : w3.heap[w.heap.size + 2]? = some (.cells #[.int .i64 0] 27) := by
  have h := heap_alloc_new ((w.alloc (.cells #[.int .u32 (p.x : Int), .int .i64 (p.n : Int)] 36)).alloc (.cells #[.int .u32 0, .int .i64 0, .int .u32 0, .bool false] 38)) (.cells #[.int .i64 0] 27)
  rw [World.size_alloc, World.size_alloc] at h
  rw [hw3, Below.heap_alloc _ _ _ (by simp <;> omega)]; exact h
 have r3 : w3.heap[w.heap.size + 3]? = some (.cells #[.int .u32 0, .int .i64 0, .int .u32 0, .bool false] 38) := by
  have h := heap_alloc_new (((w.alloc (.cells #[.int .u32 (p.x : Int), .int .i64 (p.n : Int)] 36)).alloc (.cells #[.int .u32 0, .int .i64 0, .int .u32 0, .bool false] 38)).alloc (.cells #[.int .i64 0] 27)) (.cells #[.int .u32 0, .int .i64 0, .int .u32 0, .bool false] 38)
  rw [World.size_alloc, World.size_alloc, World.size_alloc] at h
  rw [hw3]; exact h
 have HW3 := hid hw3
 have HV := hid (valid_ok w3 hp)
 have x0 : w3.cell? ⟨w.heap.size, 0, none⟩ = some (.int .u32 (p.x : Int)) := crw r0 rfl
 have x1 : w3.cell? ⟨w.heap.size, 1, none⟩ = some (.int .i64 (p.n : Int)) := crw r0 rfl
 have R0 := hid r0
 have R1 := hid r1
 have R2 := hid r2
 have R3 := hid r3
 have HB3 := hid b03
 have HS3 := hid hs3
 have HROW := hid hrow
 have HL := hid hL
 have HWF : Hid (WF top.x (top.x + top.s) m.tr) := by unfold Hid; rw [hmt]; exact hwf
 have HRES : Hid (firstK p (path m p.x) = lookT t p) := by unfold Hid; rw [firstK_path, hmt]
 obtain ⟨mp, hmp⟩ := ptr_is m
 have HMP := hid hmp
 unfold pv at HV ⊢
 clear hw3 hs3 b03 r0 r1 r2 r3 hrow hL hwf hlt hmem hmp hmt hlt0
 refine (callsIn_wide (n := 9)).1 ?_
 refine callsIn_of_wp_marks Tryz.func146 rfl trivial ?_ rfl
 refine wpIn_wide.2 ?_
 simp only [Tryz.ntmps146, List.size_toArray, List.length_cons, List.length_nil, Nat.reduceAdd, Nat.reduceSub, Array.replicate_succ, Array.replicate_zero, List.push_toArray, List.append_toArray, List.nil_append, List.cons_append]
 go_upto_region 2 with fail
 rw [<- HW3.out]
 go_wp2_with fail
 refine HV.out.mono ?_
 rintro _ w4 ⟨rfl, hb4⟩
 have hs4 := hb4.size
 have b04 : Below w.heap.size w w4 := HB3.out.trans (hb4.mono (by have := HS3.out; omega))
 have k0 := below_keeps hb4 R0.out (by have := HS3.out; omega)
 have k1 := below_keeps hb4 R1.out (by have := HS3.out; omega)
 have k2 := below_keeps hb4 R2.out (by have := HS3.out; omega)
 have k3 := below_keeps hb4 R3.out (by have := HS3.out; omega)
 have x0 : w4.cell? ⟨w.heap.size, 0, none⟩ = some (.int .u32 (p.x : Int)) := crw k0 rfl
 have t0 : w4.cell? ⟨tb, 0, none⟩ = some (.pointer mp) := by rw [<- HMP.out, cell_of_row _ _ _ _ _ _ (below_keeps b04 HROW.out (gsl HROW.out))]; rfl
 have HB4 := hid b04
 have K0 := hid k0
 have K1 := hid k1
 have K2 := hid k2
 have K3 := hid k3
 have HS4 : Hid (w.heap.size + 4 <= w4.heap.size) := by have := HS3.out; unfold Hid; omega
 clear hb4 b04 k0 k1 k2 k3 hs4
 go_upto_region 4 with fail
 refine wp_region_still_tail 6 (by kernel_rfl) (by kernel_rfl) ?_
 simp only [List.take_succ_cons, List.take_zero, List.drop_succ_cons, List.drop_zero]
 iterate 6 still_step
 refine wpStill_nil ?_
 obtain ⟨w5, hw5⟩ : ∃ w5, w5 = w4.drew := ⟨_, rfl⟩
 have HHD := hid (holding_any m p.x w5)
 rw [HMP.out, hw5] at HHD
 go_wp2_with fail
 refine HHD.out.mono ?_
 rintro _ w8 ⟨rfl, ew⟩
 go_wp2_with fail
 obtain ⟨w8, hw8⟩ : ∃ w8, w8 = ((w4.alloc (.cells #[.pointer mp] 137)).alloc (.cells #[.int .u32 (p.x : Int)] 34)).drew := ⟨_, rfl⟩
 rw [<- hw8]
 have hs8 : w8.heap.size = w4.heap.size + 2 := by rw [hw8]; show ((w4.alloc _).alloc _).heap.size = _; simp
 have hb8 : Below w4.heap.size w4 w8 := by
  rw [hw8]
  have h : Below w4.heap.size w4 ((w4.alloc (.cells #[.pointer mp] 137)).alloc (.cells #[.int .u32 (p.x : Int)] 34)) := (bR.alloc nL _).alloc (by simp) _
  exact ⟨h.os, h.tape, h.output, h.size, h.block⟩
 have q0 : w8.heap[w4.heap.size]? = some (.cells #[m.ptr] 137) := by
  rw [hw8, HMP.out]
  show ((w4.alloc _).alloc _).heap[w4.heap.size]? = _
  rw [Below.heap_alloc _ _ _ (by simp)]; exact heap_alloc_new w4 _
 have q1 : w8.heap[w4.heap.size + 1]? = some (.cells #[.int .u32 (p.x : Int)] 34) := by
  rw [hw8]
  show ((w4.alloc _).alloc _).heap[w4.heap.size + 1]? = _
  have := heap_alloc_new (w4.alloc (.cells #[.pointer mp] 137)) (.cells #[.int .u32 (p.x : Int)] 34)
  rwa [World.size_alloc] at this
 have HI0 : Hid (w4.heap.size + 2 <= w8.heap.size /\ Below w.heap.size w w8 /\ w8.heap[w.heap.size]? = some (.cells #[.int .u32 (p.x : Int), .int .i64 (p.n : Int)] 36) /\ w8.heap[w4.heap.size]? = some (.cells #[m.ptr] 137) /\ w8.heap[w4.heap.size + 1]? = some (.cells #[.int .u32 (p.x : Int)] 34) /\ (w8.heap[w.heap.size + 1]? = some (.cells #[.int .u32 0, .int .i64 0, .int .u32 0, .bool false] 38) /\ w8.heap[w.heap.size + 3]? = some (.cells #[.int .u32 0, .int .i64 0, .int .u32 0, .bool false] 38)) /\ w8.heap[w.heap.size + 2]? = some (.cells #[.int .i64 0] 27) /\ NoneTo p (path m p.x) 0) :=
  ⟨by omega, HB4.out.trans (hb8.mono (by have := HS4.out; omega)), below_keeps hb8 K0.out (by have := HS4.out; omega), q0, q1, ⟨below_keeps hb8 K1.out (by have := HS4.out; omega), below_keeps hb8 K3.out (by have := HS4.out; omega)⟩, below_keeps hb8 K2.out (by have := HS4.out; omega), fun i q h => by omega⟩
 have HS8 := hid hs8
 clear hw8 hs8 hb8 q0 q1 ew x0 t0 x1 hw5
 refine wpIn_wide.1 (wpIn_givesTo (n := 9) (F := Fence.wide) rfl (by omega) (gf := 91) (lb := #[.pointer (some ⟨w4.heap.size, 0, none⟩), .pointer (some ⟨w4.heap.size + 1, 0, none⟩)]) rfl trivial (enters_of Tryz.func91 (by kernel_rfl) rfl)
  (holding_to 8 (by omega) X w4.heap.size (w4.heap.size + 1) m p.x HWF.out) (fun _ => rfl)
  (fun k W => w4.heap.size + 2 <= W.heap.size /\ Below w.heap.size w W /\ W.heap[w.heap.size]? = some (.cells #[.int .u32 (p.x : Int), .int .i64 (p.n : Int)] 36) /\ W.heap[w4.heap.size]? = some (.cells #[m.ptr] 137) /\ W.heap[w4.heap.size + 1]? = some (.cells #[.int .u32 (p.x : Int)] 34) /\ (W.heap[w.heap.size + 1]? = some (.cells #[.int .u32 0, .int .i64 0, .int .u32 0, .bool false] 38) /\ W.heap[w.heap.size + 3]? = some (.cells #[.int .u32 0, .int .i64 0, .int .u32 0, .bool false] 38)) /\ W.heap[w.heap.size + 2]? = some (.cells #[.int .i64 0] 27) /\ NoneTo p (path m p.x) k) (fun c W => c = .ret /\ w4.heap.size + 2 <= W.heap.size /\ Below w.heap.size w W /\ ∃ v, firstK p (path m p.x) = some v /\ W.heap[w.heap.size + 1]? = some (.cells #[.int .u32 (v.x : Int), .int .i64 v.n, .int .u32 (v.via : Int), .bool v.loc] 38) /\ W.heap[w.heap.size + 2]? = some (.cells #[.int .i64 0] 27)) ?hI ?hIx ?hF ?h0
  (fun q => { tmps := #[.pointer (some ⟨tb, 0, none⟩), .agg #[.int .u32 (p.x : Int), .int .i64 (p.n : Int)], undef, .pointer (some ⟨w.heap.size, 0, none⟩), .pointer (some ⟨w.heap.size + 1, 0, none⟩), .pointer (some ⟨w.heap.size + 1 + 1, 0, none⟩), .pointer (some ⟨w.heap.size + 1 + 1 + 1, 0, none⟩), q.ptr, .agg #[.int .u32 (p.x : Int), .int .i64 (p.n : Int)], .bool true, .bool false, undef, .pointer (some ⟨tb, 0, none⟩), .pointer (some ⟨tb, 0, none⟩), .pointer (some ⟨tb, 0, none⟩), .pointer mp, .pointer (some ⟨w.heap.size, 0, none⟩), .int .u32 (p.x : Int), .func (.func 91) #[] #[.pointer (some ⟨w4.heap.size, 0, none⟩), .pointer (some ⟨w4.heap.size + 1, 0, none⟩)], q.ptr, undef, undef, undef, undef, undef, undef, undef, undef, undef, undef, undef, undef, undef, undef, undef, undef, undef, undef, undef, undef], defers := [] }) ?assign ?body ?done ?stop)
 case hI =>
  rw [HS8.out]
  refine ownFrom_belowG (fun k W hi => hi.1) ?_
  rintro k W W' ⟨i1, i2, i3, i4, i5, i6, i7, i8⟩ hb
  have h4 := HS4.out
  exact ⟨Nat.le_trans i1 hb.size, i2.trans (hb.mono (by omega)), below_keeps hb i3 (by omega), below_keeps hb i4 (by omega), below_keeps hb i5 (by omega), ⟨below_keeps hb i6.1 (by omega), below_keeps hb i6.2 (by omega)⟩, below_keeps hb i7 (by omega), i8⟩
 case hIx =>
  rw [HS8.out]
  refine ownFrom_belowG (fun k W hi => hi.2.1) ?_
  rintro k W W' ⟨i0, i1, i2, v, i3, i4, i5⟩ hb
  have h4 := HS4.out
  exact ⟨i0, Nat.le_trans i1 hb.size, i2.trans (hb.mono (by omega)), v, i3, below_keeps hb i4 (by omega), below_keeps hb i5 (by omega)⟩
 case hF =>
  rintro k W ⟨i1, i2, i3, i4, i5, i6, i7, i8⟩
  exact ⟨i4, i5, HL.out.below i2⟩
 case h0 => exact HI0.out
 case assign =>
  intro l x W K hK
  obtain ⟨xp, hxp⟩ := ptr_is x
  rw [hxp] at hK ⊢
  gi_wp2
  exact hK
 case body =>
  rintro l k x W ⟨i1, i2, i3, i4, i5, i6, i7, i8⟩ hx
  obtain ⟨⟨b, c, kk, u, lt, rt, rfl⟩, hxl⟩ := path_node (List.mem_of_getElem? hx)
  obtain ⟨_, hrow, hbox, _, _⟩ := hxl _ _ (HL.out.below i2)
  have n0 : W.cell? ⟨b, 0, none⟩ = some (.int .u32 (kk.x : Int)) := crw hrow rfl
  have n1 : W.cell? ⟨b, 1, none⟩ = some (.int .i64 (kk.n : Int)) := crw hrow rfl
  have x0 : W.cell? ⟨w.heap.size, 0, none⟩ = some (.int .u32 (p.x : Int)) := crw i3 rfl
  have x1 : W.cell? ⟨w.heap.size, 1, none⟩ = some (.int .i64 (p.n : Int)) := crw i3 rfl
  have HNX : Hid ((MT.node b c kk u lt rt).isK p = none -> KeepsFrom w8.heap.size W W.drew /\ w4.heap.size + 2 <= W.drew.heap.size /\ Below w.heap.size w W.drew /\ W.drew.heap[w.heap.size]? = some (.cells #[.int .u32 (p.x : Int), .int .i64 (p.n : Int)] 36) /\ W.drew.heap[w4.heap.size]? = some (.cells #[m.ptr] 137) /\ W.drew.heap[w4.heap.size + 1]? = some (.cells #[.int .u32 (p.x : Int)] 34) /\ (W.drew.heap[w.heap.size + 1]? = some (.cells #[.int .u32 0, .int .i64 0, .int .u32 0, .bool false] 38) /\ W.drew.heap[w.heap.size + 3]? = some (.cells #[.int .u32 0, .int .i64 0, .int .u32 0, .bool false] 38)) /\ W.drew.heap[w.heap.size + 2]? = some (.cells #[.int .i64 0] 27) /\ NoneTo p (path m p.x) (k + 1)) := fun hn =>
   ⟨⟨nL, fun _ _ _ h _ => h⟩, i1, ⟨i2.os, i2.tape, i2.output, i2.size, i2.block⟩, i3, i4, i5, i6, i7, fun i q hi hq => by
    rcases Nat.lt_or_ge i k with h | h
    ·exact i8 i q h hq
    ·obtain rfl : i = k := by omega
     rw [hx] at hq
     obtain rfl := Option.some.inj hq
     exact hn⟩
  rw [show (MT.node b c kk u lt rt).ptr = .pointer (some ⟨b, 0, none⟩) from rfl]
  by_cases he : kk = p
  ·have hq : ∀ u : World, (Op.equalIn 10000 36 (.agg #[.int .u32 (kk.x : Int), .int .i64 (kk.n : Int)]) (.agg #[.int .u32 (p.x : Int), .int .i64 (p.n : Int)])).run Tryz.prog u = .ok true u := fun u => by rw [eqK]; simp [he]
   cases u with
   | none =>
    have n2 : W.cell? ⟨b, 2, none⟩ = some (.pointer none) := crw hrow rfl
    have HN2 := hid (HNX.out (by show (if kk = p then none else none) = none; split <;> rfl))
    clear hrow hbox i1 i2 i3 i4 i5 i6 i7 i8 hx hxl HNX he
    gi_wp2
    gi_region
    all_goals (gi_wp2; exact HN2.out)
   | some v =>
    have HROWN := hid hrow
    have HBOX := hid (hbox v rfl).2
    have HIA := hid (And.intro i1 (And.intro i2 (And.intro i6 i7)))
    have HI3 := hid i3
    have HST : Hid (firstK p (path m p.x) = some v) := firstK_at i8 hx (by show (if kk = p then some v else none) = some v; rw [if_pos he])
    have n0 : ∀ t : Beh W, t.wd.cell? ⟨b, 0, none⟩ = some (.int .u32 (kk.x : Int)) := fun t => by rw [cell_of_row _ _ _ _ _ _ (below_keeps t.ok hrow (gsl hrow))]; rfl
    have n1 : ∀ t : Beh W, t.wd.cell? ⟨b, 1, none⟩ = some (.int .i64 (kk.n : Int)) := fun t => by rw [cell_of_row _ _ _ _ _ _ (below_keeps t.ok hrow (gsl hrow))]; rfl
    have n2 : ∀ t : Beh W, t.wd.cell? ⟨b, 2, none⟩ = some (.pointer (some ⟨c, 0, none⟩)) := fun t => by rw [cell_of_row _ _ _ _ _ _ (below_keeps t.ok hrow (gsl hrow))]; rfl
    have x0 : ∀ t : Beh W, t.wd.cell? ⟨w.heap.size, 0, none⟩ = some (.int .u32 (p.x : Int)) := fun t => by rw [cell_of_row _ _ _ _ _ _ (below_keeps t.ok i3 (gsl i3))]; rfl
    have x1 : ∀ t : Beh W, t.wd.cell? ⟨w.heap.size, 1, none⟩ = some (.int .i64 (p.n : Int)) := fun t => by rw [cell_of_row _ _ _ _ _ _ (below_keeps t.ok i3 (gsl i3))]; rfl
    clear hrow hbox i1 i2 i3 i4 i5 i6 i7 i8 hx hxl HNX he
    gi_wp2
    refine wpIn_region_behR (by kernel_rfl) (by kernel_rfl) (by kernel_rfl) ?_
    repeat (go_big_quiet_step (fail))
    refine wpQuiet_nil ?_
    rintro _ ⟨t, rfl⟩
    obtain ⟨Wt, HWT⟩ : ∃ Wt, Hid (Wt = t.wd) := ⟨_, rfl⟩
    have hbx : Below W.heap.size W Wt := by rw [HWT.out]; exact t.ok
    rw [<- HWT.out]
    obtain ⟨i1, i2, i6, i7⟩ := HIA.out
    have k1 : w4.heap.size + 2 <= Wt.heap.size := Nat.le_trans i1 hbx.size
    have k2 : Below w.heap.size w Wt := i2.trans (hbx.mono i2.size)
    have k6 := below_keeps hbx i6.1 (gsl i6.1)
    have k7 := below_keeps hbx i7 (gsl i7)
    have kr := below_keeps hbx HROWN.out (gsl HROWN.out)
    have kv := below_keeps hbx HBOX.out (gsl HBOX.out)
    have m2 : Wt.cell? ⟨b, 2, none⟩ = some (.pointer (some ⟨c, 0, none⟩)) := crw kr rfl
    have v0 : Wt.cell? ⟨c, 0, none⟩ = some (.int .u32 (v.x : Int)) := crw kv rfl
    have v1 : Wt.cell? ⟨c, 1, none⟩ = some (.int .i64 v.n) := crw kv rfl
    have v2 : Wt.cell? ⟨c, 2, none⟩ = some (.int .u32 (v.via : Int)) := crw kv rfl
    have v3 : Wt.cell? ⟨c, 3, none⟩ = some (.bool v.loc) := crw kv rfl
    have c0 : Wt.cell? ⟨w.heap.size + 1, 0, none⟩ = some (.int .u32 0) := crw k6 rfl
    have f0 : Wt.frozen? ⟨w.heap.size + 1, 0, none⟩ = false := frozen_of_row _ _ _ _ _ k6
    have c1 : Wt.cell? ⟨w.heap.size + 1, 1, none⟩ = some (.int .i64 0) := crw k6 rfl
    have f1 : Wt.frozen? ⟨w.heap.size + 1, 1, none⟩ = false := frozen_of_row _ _ _ _ _ k6
    have c2 : Wt.cell? ⟨w.heap.size + 1, 2, none⟩ = some (.int .u32 0) := crw k6 rfl
    have f2 : Wt.frozen? ⟨w.heap.size + 1, 2, none⟩ = false := frozen_of_row _ _ _ _ _ k6
    have c3 : Wt.cell? ⟨w.heap.size + 1, 3, none⟩ = some (.bool false) := crw k6 rfl
    have f3 : Wt.frozen? ⟨w.heap.size + 1, 3, none⟩ = false := frozen_of_row _ _ _ _ _ k6
    obtain ⟨Wa, hWa⟩ : ∃ Wa, Wa = ((((Wt.setCell ⟨w.heap.size + 1, 0, none⟩ (.int .u32 (v.x : Int))).setCell ⟨w.heap.size + 1, 1, none⟩ (.int .i64 v.n)).setCell ⟨w.heap.size + 1, 2, none⟩ (.int .u32 (v.via : Int))).setCell ⟨w.heap.size + 1, 3, none⟩ (.bool v.loc)) := ⟨_, rfl⟩
    have bt1 : Chg (fun b => b = w.heap.size + 1) Wt Wa := by rw [hWa]; exact ((((Chg.of_but (X := fun b => b = w.heap.size + 1) (But.set _ 0 _ _) rfl).trans (Chg.of_but (X := fun b => b = w.heap.size + 1) (But.set _ 1 _ _) rfl)).trans (Chg.of_but (X := fun b => b = w.heap.size + 1) (But.set _ 2 _ _) rfl)).trans (Chg.of_but (X := fun b => b = w.heap.size + 1) (But.set _ 3 _ _) rfl))
    have j7 : Wa.heap[w.heap.size + 2]? = some (.cells #[.int .i64 0] 27) := (bt1.block _ (gsl k7) (by omega)).trans k7
    have j6 : Wa.heap[w.heap.size + 1]? = some (.cells #[.int .u32 (v.x : Int), .int .i64 v.n, .int .u32 (v.via : Int), .bool v.loc] 38) := by rw [hWa]; exact set_row (set_row (set_row (set_row k6)))
    have d1 : Wa.cell? ⟨w.heap.size + 1 + 1, 0, none⟩ = some (.int .i64 0) := crw j7 rfl
    have g1 : Wa.frozen? ⟨w.heap.size + 1 + 1, 0, none⟩ = false := frozen_of_row _ _ _ _ _ j7
    obtain ⟨Wb, hWb⟩ : ∃ Wb, Wb = Wa.setCell ⟨w.heap.size + 1 + 1, 0, none⟩ (.int .i64 0) := ⟨_, rfl⟩
    have bt2 : But (w.heap.size + 2) Wa Wb := by rw [hWb]; exact But.set _ _ _ _
    have HFIN : Hid (KeepsFrom w8.heap.size W Wb /\ w4.heap.size + 2 <= Wb.heap.size /\ Below w.heap.size w Wb /\ ∃ v, firstK p (path m p.x) = some v /\ Wb.heap[w.heap.size + 1]? = some (.cells #[.int .u32 (v.x : Int), .int .i64 v.n, .int .u32 (v.via : Int), .bool v.loc] 38) /\ Wb.heap[w.heap.size + 2]? = some (.cells #[.int .i64 0] 27)) := by
     have h4 := HS4.out
     have h8 := HS8.out
     have hsz : Wt.heap.size <= Wb.heap.size := Nat.le_trans bt1.size bt2.size
     have hbl : ∀ j, j < Wt.heap.size -> j ≠ w.heap.size + 1 -> j ≠ w.heap.size + 2 -> Wb.heap[j]? = Wt.heap[j]? := fun j hj n1 n2 => by
      rw [bt2.block j (Nat.lt_of_lt_of_le hj bt1.size) n2, bt1.block j hj n1]
     refine ⟨⟨Nat.le_trans hbx.size hsz, fun k o hk ho hc => ?_⟩, Nat.le_trans k1 hsz, ⟨bt2.os.trans (bt1.os.trans k2.os), bt2.tape.trans (bt1.tape.trans k2.tape), bt2.output.trans (bt1.output.trans k2.output), Nat.le_trans k2.size hsz, fun j hj => (hbl j (by omega) (by omega) (by omega)).trans (k2.block j hj)⟩, v, HST.out, ?_, ?_⟩
     ·have hkl := (gsl ho)
      exact (hbl k (Nat.lt_of_lt_of_le hkl hbx.size) (by omega) (by omega)).trans ((hbx.block k hkl).trans ho)
     ·rw [bt2.block _ (gsl j6) (by omega)]; exact j6
     ·rw [hWb]; exact set_row j7
    have HWB := hid hWb
    have HWA := hid hWa
    rw [hWa] at d1 g1
    clear hbx i1 i2 i6 i7 k1 k2 k6 k7 kr kv hWa hWb bt1 bt2 j6 j7 n0 n1 n2 x0 x1
    gi_wp2
    rw [<- HWA.out, <- HWB.out]
    exact ⟨HFIN.out.1, rfl, HFIN.out.2⟩
  ·have hq : ∀ u : World, (Op.equalIn 10000 36 (.agg #[.int .u32 (kk.x : Int), .int .i64 (kk.n : Int)]) (.agg #[.int .u32 (p.x : Int), .int .i64 (p.n : Int)])).run Tryz.prog u = .ok false u := fun u => by rw [eqK]; simp [he]
   have HN2 := hid (HNX.out (by show (if kk = p then u else none) = none; rw [if_neg he]))
   clear hrow hbox i1 i2 i3 i4 i5 i6 i7 i8 hx hxl HNX he
   gi_wp2
   gi_region
   all_goals (gi_wp2; exact HN2.out)
 case done =>
  rintro D W hD ⟨i1, i2, i3, i4, i5, i6, i7, i8⟩ hK
  have HGV : Hid (getV (lookT t p) = .tuple #[.agg #[.int .u32 0, .int .i64 0, .int .u32 0, .bool false], .int .i64 3]) := by unfold Hid; rw [<- HRES.out, firstK_none i8]; rfl
  have HDD := hid hD
  have z0 : W.cell? ⟨w.heap.size + 1 + 1 + 1, 0, none⟩ = some (.int .u32 0) := crw i6.2 rfl
  have z1 : W.cell? ⟨w.heap.size + 1 + 1 + 1, 1, none⟩ = some (.int .i64 0) := crw i6.2 rfl
  have z2 : W.cell? ⟨w.heap.size + 1 + 1 + 1, 2, none⟩ = some (.int .u32 0) := crw i6.2 rfl
  have z3 : W.cell? ⟨w.heap.size + 1 + 1 + 1, 3, none⟩ = some (.bool false) := crw i6.2 rfl
  have c0 : W.cell? ⟨w.heap.size + 1, 0, none⟩ = some (.int .u32 0) := crw i6.1 rfl
  have f0 : W.frozen? ⟨w.heap.size + 1, 0, none⟩ = false := frozen_of_row _ _ _ _ _ i6.1
  have c1 : W.cell? ⟨w.heap.size + 1, 1, none⟩ = some (.int .i64 0) := crw i6.1 rfl
  have f1 : W.frozen? ⟨w.heap.size + 1, 1, none⟩ = false := frozen_of_row _ _ _ _ _ i6.1
  have c2 : W.cell? ⟨w.heap.size + 1, 2, none⟩ = some (.int .u32 0) := crw i6.1 rfl
  have f2 : W.frozen? ⟨w.heap.size + 1, 2, none⟩ = false := frozen_of_row _ _ _ _ _ i6.1
  have c3 : W.cell? ⟨w.heap.size + 1, 3, none⟩ = some (.bool false) := crw i6.1 rfl
  have f3 : W.frozen? ⟨w.heap.size + 1, 3, none⟩ = false := frozen_of_row _ _ _ _ _ i6.1
  obtain ⟨Wa, hWa⟩ : ∃ Wa, Wa = ((((W.setCell ⟨w.heap.size + 1, 0, none⟩ (.int .u32 0)).setCell ⟨w.heap.size + 1, 1, none⟩ (.int .i64 0)).setCell ⟨w.heap.size + 1, 2, none⟩ (.int .u32 0)).setCell ⟨w.heap.size + 1, 3, none⟩ (.bool false)) := ⟨_, rfl⟩
  have bt1 : Chg (fun b => b = w.heap.size + 1) W Wa := by rw [hWa]; exact ((((Chg.of_but (X := fun b => b = w.heap.size + 1) (But.set _ 0 _ _) rfl).trans (Chg.of_but (X := fun b => b = w.heap.size + 1) (But.set _ 1 _ _) rfl)).trans (Chg.of_but (X := fun b => b = w.heap.size + 1) (But.set _ 2 _ _) rfl)).trans (Chg.of_but (X := fun b => b = w.heap.size + 1) (But.set _ 3 _ _) rfl))
  have j7 : Wa.heap[w.heap.size + 2]? = some (.cells #[.int .i64 0] 27) := (bt1.block _ (gsl i7) (by omega)).trans i7
  have d1 : Wa.cell? ⟨w.heap.size + 1 + 1, 0, none⟩ = some (.int .i64 0) := crw j7 rfl
  have g1 : Wa.frozen? ⟨w.heap.size + 1 + 1, 0, none⟩ = false := frozen_of_row _ _ _ _ _ j7
  have j6 : Wa.heap[w.heap.size + 1]? = some (.cells #[.int .u32 0, .int .i64 0, .int .u32 0, .bool false] 38) := by rw [hWa]; exact set_row (set_row (set_row (set_row i6.1)))
  obtain ⟨Wb, hWb⟩ : ∃ Wb, Wb = Wa.setCell ⟨w.heap.size + 1 + 1, 0, none⟩ (.int .i64 3) := ⟨_, rfl⟩
  have bt2 : But (w.heap.size + 2) Wa Wb := by rw [hWb]; exact But.set _ _ _ _
  have h4 := HS4.out
  have h8 := HS8.out
  have RV : Wb.heap[w.heap.size + 1]? = some (.cells #[.int .u32 0, .int .i64 0, .int .u32 0, .bool false] 38) := (bt2.block _ (gsl j6) (by omega)).trans j6
  have RE : Wb.heap[w.heap.size + 1 + 1]? = some (.cells #[.int .i64 3] 27) := by rw [hWb]; exact set_row j7
  have KD : Wb.heap[D]? = some (.deferred (some [])) := (bt2.block D (Nat.lt_of_lt_of_le (gsl hK) bt1.size) (by omega)).trans ((bt1.block D (gsl hK) (by omega)).trans hK)
  have hbWa : Below w.heap.size w Wa := ⟨bt1.os.trans i2.os, bt1.tape.trans i2.tape, bt1.output.trans i2.output, Nat.le_trans i2.size bt1.size, fun x hx => (bt1.block x (Nat.lt_of_lt_of_le hx i2.size) (by omega)).trans (i2.block x hx)⟩
  have BZ : Below w.heap.size w Wb := bt2.below hbWa (Nat.le_trans (by omega) bt1.size) (by omega)
  have HWB : Hid (Wb = ((((W.setCell ⟨w.heap.size + 1, 0, none⟩ (.int .u32 0)).setCell ⟨w.heap.size + 1, 1, none⟩ (.int .i64 0)).setCell ⟨w.heap.size + 1, 2, none⟩ (.int .u32 0)).setCell ⟨w.heap.size + 1, 3, none⟩ (.bool false)).setCell ⟨w.heap.size + 1 + 1, 0, none⟩ (.int .i64 3)) := by unfold Hid; rw [hWb, hWa]
  rw [hWa] at d1 g1
  have HE := hid (And.intro RV (And.intro RE (And.intro KD BZ)))
  clear i1 i2 i3 i4 i5 i6 i7 i8 hK hD hWa hWb bt1 bt2 j6 j7 RV RE KD BZ h4 h8 hbWa
  go_wp2_with fail
  rw [<- HWB.out]
  obtain ⟨RV, RE, KD, BZ⟩ := HE.out
  have hKz : Wb.heap[D]? = some (.deferred (some [])) := KD
  have hbf : Below w.heap.size w (Wb.putObj D (.deferred none)) := BZ.trans (belowK_b (w := w) nL Wb D _ _ (by have := HDD.out; have := HS8.out; have := HS4.out; omega) hKz rfl rfl)
  have rz : (Wb.putObj D (.deferred none)).heap[w.heap.size + 1]? = some (.cells #[.int .u32 0, .int .i64 0, .int .u32 0, .bool false] 38) := (World.putObj_heap_other (by have := HDD.out; have := HS8.out; have := HS4.out; omega)).trans RV
  have ry : (Wb.putObj D (.deferred none)).heap[w.heap.size + 1 + 1]? = some (.cells #[.int .i64 3] 27) := (World.putObj_heap_other (by have := HDD.out; have := HS8.out; have := HS4.out; omega)).trans RE
  have u0 : (Wb.putObj D (.deferred none)).cell? ⟨w.heap.size + 1, 0, none⟩ = some (.int .u32 0) := crw rz rfl
  have u1 : (Wb.putObj D (.deferred none)).cell? ⟨w.heap.size + 1, 1, none⟩ = some (.int .i64 0) := crw rz rfl
  have u2 : (Wb.putObj D (.deferred none)).cell? ⟨w.heap.size + 1, 2, none⟩ = some (.int .u32 0) := crw rz rfl
  have u3 : (Wb.putObj D (.deferred none)).cell? ⟨w.heap.size + 1, 3, none⟩ = some (.bool false) := crw rz rfl
  have g1 : (Wb.putObj D (.deferred none)).cell? ⟨w.heap.size + 1 + 1, 0, none⟩ = some (.int .i64 3) := crw ry rfl
  refine ⟨by simp, .inl ⟨_, _, rfl, run_takeDeferred hKz, ?_⟩⟩
  refine ⟨_, (by simp [results, Tryz.results146, go_sem, u0, u1, u2, u3, g1]; rfl), ?_, hbf⟩
  rw [HGV.out]
 case stop =>
  rintro D c W hD ⟨i0, i1, i2, v, i3, i4, i5⟩ hK
  subst i0
  have HGV : Hid (getV (lookT t p) = .tuple #[.agg #[.int .u32 (v.x : Int), .int .i64 v.n, .int .u32 (v.via : Int), .bool v.loc], .int .i64 0]) := by unfold Hid; rw [<- HRES.out, i3]; rfl
  have HDD := hid hD
  have HE := hid (And.intro i4 (And.intro i5 (And.intro hK i2)))
  clear i1 i2 i3 i4 i5 hK hD
  refine wpIn_wide.2 ?_
  go_wp2_with fail
  obtain ⟨RV, RE, KD, BZ⟩ := HE.out
  have hKz : W.heap[D]? = some (.deferred (some [])) := KD
  have hbf : Below w.heap.size w (W.putObj D (.deferred none)) := BZ.trans (belowK_b (w := w) nL W D _ _ (by have := HDD.out; have := HS8.out; have := HS4.out; omega) hKz rfl rfl)
  have rz : (W.putObj D (.deferred none)).heap[w.heap.size + 1]? = some (.cells #[.int .u32 (v.x : Int), .int .i64 v.n, .int .u32 (v.via : Int), .bool v.loc] 38) := (World.putObj_heap_other (by have := HDD.out; have := HS8.out; have := HS4.out; omega)).trans RV
  have ry : (W.putObj D (.deferred none)).heap[w.heap.size + 1 + 1]? = some (.cells #[.int .i64 0] 27) := (World.putObj_heap_other (by have := HDD.out; have := HS8.out; have := HS4.out; omega)).trans RE
  have u0 : (W.putObj D (.deferred none)).cell? ⟨w.heap.size + 1, 0, none⟩ = some (.int .u32 (v.x : Int)) := crw rz rfl
  have u1 : (W.putObj D (.deferred none)).cell? ⟨w.heap.size + 1, 1, none⟩ = some (.int .i64 v.n) := crw rz rfl
  have u2 : (W.putObj D (.deferred none)).cell? ⟨w.heap.size + 1, 2, none⟩ = some (.int .u32 (v.via : Int)) := crw rz rfl
  have u3 : (W.putObj D (.deferred none)).cell? ⟨w.heap.size + 1, 3, none⟩ = some (.bool v.loc) := crw rz rfl
  have g1 : (W.putObj D (.deferred none)).cell? ⟨w.heap.size + 1 + 1, 0, none⟩ = some (.int .i64 0) := crw ry rfl
  refine ⟨by simp, .inl ⟨_, _, rfl, run_takeDeferred hKz, ?_⟩⟩
  refine ⟨_, (by simp [results, Tryz.results146, go_sem, u0, u1, u2, u3, g1]; rfl), ?_, hbf⟩
  rw [HGV.out]
end Go.Proofs.YtpdnnikkaojnkaaGreat.Rt
namespace Go.Proofs.YtpdnnikkaojnkaaGreat.Rt
open Go.Proofs.YtpdnnikkaojnkaaGreat Go.ChangeShapes Go.WideShapes Go.ChangeAt Go.RowKit Tri N
set_option maxHeartbeats 1000000
set_option maxRecDepth 100000
theorem TrieAt.grow {w w' : World} {X : Nat -> Prop} {tb : Nat} {t : Tr} (h : TrieAt w X tb t) (hb : Below w.heap.size w w') : TrieAt w' X tb t := by
 obtain ⟨h1, h2, ⟨m, h3, h4, h5⟩, h6⟩ := h
 exact ⟨h1, fun b hx => Nat.lt_of_lt_of_le (h2 b hx) hb.size, ⟨m, below_keeps hb h3 (gsl h3), h4, h5.below hb⟩, h6⟩
def delT (t : Tr) (p : K) : Tr := if (lookT t p).isSome then hang t p none else t
theorem del_any {X : Nat -> Prop} {tb : Nat} {t : Tr} (p : K) (w : World) (hT : TrieAt w X tb t) (hp : p.Ok) :
  Calls Tryz.prog 145 #[.pointer (some ⟨tb, 0, none⟩), pv p] w fun e w' => e = .returned (getV (lookT t p)) /\ TrieAt w' X tb (delT t p) /\ Chg (fun b => b = tb) w w' := by
 have hT0 := hT
 obtain ⟨hmem, hlt, ⟨m, hrow, hmt, hL⟩, hwf⟩ := hT
 obtain ⟨w1, hw1⟩ : ∃ w1, w1 = (w.alloc (.cells #[.int .u32 (p.x : Int), .int .i64 (p.n : Int)] 36)).alloc (.cells #[.int .u32 0, .int .i64 0, .int .u32 0, .bool false] 38) := ⟨_, rfl⟩
 have hs1 : w1.heap.size = w.heap.size + 2 := by rw [hw1]; simp
 have hb1 : Below w.heap.size w w1 := by rw [hw1]; exact (bR.alloc nL _).alloc (by simp) _
 have r1 : w1.heap[w.heap.size]? = some (.cells #[.int .u32 (p.x : Int), .int .i64 (p.n : Int)] 36) := by rw [hw1, Below.heap_alloc _ _ _ (by simp)]; exact heap_alloc_new w _
 have rr : w1.heap[w.heap.size + 1]? = some (.cells #[.int .u32 0, .int .i64 0, .int .u32 0, .bool false] 38) := by
  have h := heap_alloc_new (w.alloc (.cells #[.int .u32 (p.x : Int), .int .i64 (p.n : Int)] 36)) (.cells #[.int .u32 0, .int .i64 0, .int .u32 0, .bool false] 38)
  rw [World.size_alloc] at h
  rw [hw1]; exact h
 have x0 : w1.cell? ⟨w.heap.size, 0, none⟩ = some (.int .u32 (p.x : Int)) := crw r1 rfl
 have x1 : w1.cell? ⟨w.heap.size, 1, none⟩ = some (.int .i64 (p.n : Int)) := crw r1 rfl
 have HG := hid (get_any p w1 (hT0.grow hb1) hp)
 have hlt0 := (gsl hrow)
 obtain ⟨Y, hY⟩ : ∃ Y : Nat -> Prop, Y = fun b => X b \/ b = w.heap.size + 1 := ⟨_, rfl⟩
 have hYL : Lies w Y m := hL.more fun j hj => by
  rw [hY] at hj
  rcases hj with h | h
  ·exact .inl h
  ·exact .inr (by omega)
 have hYlt : ∀ b, Y b -> b < w1.heap.size := fun b hb => by
  rw [hY] at hb
  rcases hb with h | h
  ·have := hlt b h; omega
  ·omega
 have HMX := hid hmem
 have HLX := hid hlt
 have HXY : Hid (∀ j, X j -> Y j) := fun j hj => by rw [hY]; exact .inl hj
 have HYR : Hid (Y (w.heap.size + 1)) := by unfold Hid; rw [hY]; exact .inr rfl
 have hmemY : Y tb := by rw [hY]; exact .inl hmem
 clear hY
 have HWA := hid hw1
 have HB0 := hid hb1
 have HS1 := hid hs1
 have R1 := hid r1
 have RR := hid rr
 have HT0 := hid hT0
 have HH : Hid (∀ u, Below w1.heap.size w1 u -> Calls Tryz.prog 149 #[m.ptr, pv p, vptr 0 none] u (HangPost Y u (hang t p none))) := fun u hu => by
  have hn := WF_nodes hwf
  rw [top_s, <- hmt] at hn
  rw [<- hmt] at hwf ⊢
  have hbu := hb1.trans (hu.mono (by omega))
  exact hang_any p hp _ _ m _ _ u hwf (by show nodes m.tr < _; simp only [top] at hn; omega) (fun b hb => by have := hYlt b hb; have := hu.size; omega) (fun a' ha => by cases ha) (hYL.below hbu)
 have HROW0 := hid hrow
 have HROW : Hid (w1.heap[tb]? = some (.cells #[m.ptr] 139)) := below_keeps hb1 hrow hlt0
 have HLA := hid hYlt
 have HMEM := hid hmemY
 have HWF := hid (hang_facts (v := none) top_ok hwf hp hp.top).1
 obtain ⟨mp, hmp⟩ := ptr_is m
 rw [hmp] at HH HROW
 unfold pv at HG ⊢
 clear hw1 hs1 hb1 r1 rr hrow hmt hL hwf hlt0 hlt hmem hmp hT0 hYL hYlt hmemY
 cases hlk : lookT t p with
 | none =>
  have HD : Hid (delT t p = t) := by unfold Hid delT; rw [hlk]; rfl
  rw [hlk] at HG
  simp only [getV] at HG ⊢
  clear hlk HH
  go_enter Tryz.func145, Tryz.ntmps145
  go_upto_region 1 with fail
  rw [<- HWA.out]
  go_wp2_with fail
  refine HG.out.mono ?_
  rintro _ w3 ⟨rfl, hb3⟩
  have HB3 : Hid (Below w.heap.size w w3) := HB0.out.trans (hb3.mono (by have := HS1.out; omega))
  have RR3 : Hid (w3.heap[w.heap.size + 1]? = some (.cells #[.int .u32 0, .int .i64 0, .int .u32 0, .bool false] 38)) := below_keeps hb3 RR.out (by have := HS1.out; omega)
  have HS3 : Hid (w.heap.size + 2 <= w3.heap.size) := by have := HS1.out; have := hb3.size; unfold Hid; omega
  clear hb3 x0 x1
  obtain ⟨w4, hw4⟩ : ∃ w4, w4 = w3.alloc (.cells #[.int .u32 0, .int .i64 0, .int .u32 0, .bool false] 38) := ⟨_, rfl⟩
  have b34 : Below w3.heap.size w3 w4 := by rw [hw4]; exact bR.alloc nL _
  have r4 : w4.heap[w3.heap.size]? = some (.cells #[.int .u32 0, .int .i64 0, .int .u32 0, .bool false] 38) := by rw [hw4]; exact heap_alloc_new w3 _
  have HW4 := hid hw4
  have HS4 : Hid (w3.heap.size < w4.heap.size) := (gsl r4)
  have HB4 : Hid (Below w.heap.size w w4) := HB3.out.trans (b34.mono (by have := HS3.out; omega))
  have R44 := hid r4
  have RU4 : Hid (w4.heap[w.heap.size + 1]? = some (.cells #[.int .u32 0, .int .i64 0, .int .u32 0, .bool false] 38)) := below_keeps b34 RR3.out (by have := HS3.out; omega)
  clear hw4 b34 r4
  go_upto_region 2 with fail
  rw [<- HW4.out]
  have RU := RU4.out
  have RW := R44.out
  have x0 : w4.cell? ⟨w3.heap.size, 0, none⟩ = some (.int .u32 0) := crw RW rfl
  have x1 : w4.cell? ⟨w3.heap.size, 1, none⟩ = some (.int .i64 0) := crw RW rfl
  have x2 : w4.cell? ⟨w3.heap.size, 2, none⟩ = some (.int .u32 0) := crw RW rfl
  have x3 : w4.cell? ⟨w3.heap.size, 3, none⟩ = some (.bool false) := crw RW rfl
  have y0 : w4.cell? ⟨w.heap.size + 1, 0, none⟩ = some (.int .u32 0) := crw RU rfl
  have z0 : w4.frozen? ⟨w.heap.size + 1, 0, none⟩ = false := frozen_of_row _ _ _ _ _ RU
  have y1 : w4.cell? ⟨w.heap.size + 1, 1, none⟩ = some (.int .i64 0) := crw RU rfl
  have z1 : w4.frozen? ⟨w.heap.size + 1, 1, none⟩ = false := frozen_of_row _ _ _ _ _ RU
  have y2 : w4.cell? ⟨w.heap.size + 1, 2, none⟩ = some (.int .u32 0) := crw RU rfl
  have z2 : w4.frozen? ⟨w.heap.size + 1, 2, none⟩ = false := frozen_of_row _ _ _ _ _ RU
  have y3 : w4.cell? ⟨w.heap.size + 1, 3, none⟩ = some (.bool false) := crw RU rfl
  have z3 : w4.frozen? ⟨w.heap.size + 1, 3, none⟩ = false := frozen_of_row _ _ _ _ _ RU
  obtain ⟨wf, hwf⟩ : ∃ wf, wf = ((((w4.setCell ⟨w.heap.size + 1, 0, none⟩ (.int .u32 0)).setCell ⟨w.heap.size + 1, 1, none⟩ (.int .i64 0)).setCell ⟨w.heap.size + 1, 2, none⟩ (.int .u32 0)).setCell ⟨w.heap.size + 1, 3, none⟩ (.bool false)) := ⟨_, rfl⟩
  have cf : Chg (fun b => b = w.heap.size + 1) w4 wf := by rw [hwf]; exact ((((Chg.of_but (X := fun b => b = w.heap.size + 1) (But.set _ 0 _ _) rfl).trans (Chg.of_but (X := fun b => b = w.heap.size + 1) (But.set _ 1 _ _) rfl)).trans (Chg.of_but (X := fun b => b = w.heap.size + 1) (But.set _ 2 _ _) rfl)).trans (Chg.of_but (X := fun b => b = w.heap.size + 1) (But.set _ 3 _ _) rfl))
  have rf : wf.heap[w.heap.size + 1]? = some (.cells #[.int .u32 0, .int .i64 0, .int .u32 0, .bool false] 38) := by rw [hwf]; exact set_row (set_row (set_row (set_row RU)))
  have HWF4 := hid hwf
  have HFF : Hid (Chg (fun b => b = w.heap.size + 1) w4 wf /\ wf.heap[w.heap.size + 1]? = some (.cells #[.int .u32 0, .int .i64 0, .int .u32 0, .bool false] 38)) := ⟨cf, rf⟩
  clear hwf cf rf RU RW
  go_wp2_with fail
  rw [<- HWF4.out]
  obtain ⟨cf, rf⟩ := HFF.out
  have u0 : wf.cell? ⟨w.heap.size + 1, 0, none⟩ = some (.int .u32 0) := crw rf rfl
  have u1 : wf.cell? ⟨w.heap.size + 1, 1, none⟩ = some (.int .i64 0) := crw rf rfl
  have u2 : wf.cell? ⟨w.heap.size + 1, 2, none⟩ = some (.int .u32 0) := crw rf rfl
  have u3 : wf.cell? ⟨w.heap.size + 1, 3, none⟩ = some (.bool false) := crw rf rfl
  have hbf : Below w.heap.size w wf := ⟨cf.os.trans HB4.out.os, cf.tape.trans HB4.out.tape, cf.output.trans HB4.out.output, Nat.le_trans HB4.out.size cf.size, fun j hj => (cf.block j (Nat.lt_of_lt_of_le hj HB4.out.size) (by omega)).trans (HB4.out.block j hj)⟩
  refine bodyPost_ret (v := .tuple #[.agg #[.int .u32 0, .int .i64 0, .int .u32 0, .bool false], .int .i64 3]) (by simp [results, Tryz.results145, go_sem, u0, u1, u2, u3]) rfl ⟨rfl, ?_, Chg.of_below hbf⟩
  rw [HD.out]; exact HT0.out.grow hbf
 | some v =>
  have HD : Hid (delT t p = hang t p none) := by unfold Hid delT; rw [hlk]; rfl
  rw [hlk] at HG
  rw [HD.out]
  simp only [getV] at HG ⊢
  generalize hang t p none = T at *
  clear hlk HD
  go_enter Tryz.func145, Tryz.ntmps145
  go_upto_region 1 with fail
  rw [<- HWA.out]
  go_wp2_with fail
  refine HG.out.mono ?_
  rintro _ w3 ⟨rfl, hb3⟩
  have HB3' := hid hb3
  have RR3 : Hid (w3.heap[w.heap.size + 1]? = some (.cells #[.int .u32 0, .int .i64 0, .int .u32 0, .bool false] 38)) := below_keeps hb3 RR.out (by have := HS1.out; omega)
  have HS3 : Hid (w.heap.size + 2 <= w3.heap.size) := by have := HS1.out; have := hb3.size; unfold Hid; omega
  clear hb3 x0 x1
  obtain ⟨w4, hw4⟩ : ∃ w4, w4 = w3.alloc (.cells #[.int .u32 (v.x : Int), .int .i64 v.n, .int .u32 (v.via : Int), .bool v.loc] 38) := ⟨_, rfl⟩
  have b34 : Below w3.heap.size w3 w4 := by rw [hw4]; exact bR.alloc nL _
  have r4 : w4.heap[w3.heap.size]? = some (.cells #[.int .u32 (v.x : Int), .int .i64 v.n, .int .u32 (v.via : Int), .bool v.loc] 38) := by rw [hw4]; exact heap_alloc_new w3 _
  have HW4 := hid hw4
  have HS4 : Hid (w3.heap.size < w4.heap.size) := (gsl r4)
  have HB3 : Hid (Below w1.heap.size w1 w4) := HB3'.out.trans (b34.mono (by have := HB3'.out.size; omega))
  have HB23 : Hid (Below w.heap.size w w4) := HB0.out.trans (HB3.out.mono (by have := HS1.out; omega))
  have R44 := hid r4
  have RU4 : Hid (w4.heap[w.heap.size + 1]? = some (.cells #[.int .u32 0, .int .i64 0, .int .u32 0, .bool false] 38)) := below_keeps b34 RR3.out (by have := HS3.out; omega)
  have HTB : Hid (tb < w.heap.size) := (gsl HROW0.out)
  clear hw4 b34 r4
  go_upto_region 3 with fail
  rw [<- HW4.out]
  refine wp_region_mono' 7 (fun i => 16 + i) (FP Y tb (.pointer mp) p T) (by kernel_rfl) (by kernel_rfl) (FP.keeps _ _ _ _ _) ?_ ?_
  ·simp only [List.take_succ_cons, List.take_zero, N.stepsOk]
   refine ⟨?_, ?_, ?_, ?_, ?_, ?_, ?_, trivial⟩
   ·intro a u vs hb hold hdep
    exact wp_val (ex_move (.tmp 0) _ rfl (hold 0 (fun j hj => low (by decide)))) ⟨_, rfl, rfl, hb, bR⟩
   ·intro a u vs hb hold hdep
    exact wp_val (ex_move (.tmp 0) _ rfl (hold 0 (fun j hj => low (by decide)))) ⟨_, rfl, rfl, hb, bR⟩
   ·intro a u vs hb hold hdep
    have h0 := hdep ⟨1, .data⟩ (by simp) rfl (by decide)
    exact wp_val (ex_nil ⟨tb, 0, none⟩ (.tmp 17) rfl (h0.1.trans h0.2)) ⟨_, rfl, rfl, hb, bR⟩
   ·intro a u vs hb hold hdep
    have h0 := hdep ⟨2, .data⟩ (by simp) rfl (by decide)
    exact wp_val (ex_field _ ⟨tb, 0, none⟩ (.tmp 18) 0 _ rfl (h0.1.trans h0.2) (fld_tr u)) ⟨_, rfl, rfl, hb, bR⟩
   ·intro a u vs hb hold hdep
    have h0 := hdep ⟨3, .data⟩ (by simp) rfl (by decide)
    refine wp_val (ex_load _ ⟨tb, 0, none⟩ (.tmp 19) _ rfl (h0.1.trans h0.2) (load_nd ?_)) ⟨_, rfl, rfl, hb, bR⟩
    have hlt := (gsl HROW.out)
    rw [cell_of_row _ _ _ _ _ _ (below_keeps hb (below_keeps HB3.out HROW.out hlt) (Nat.lt_of_lt_of_le hlt HB3.out.size))]; rfl
   ·intro a u vs hb hold hdep
    have hlt : w.heap.size < w1.heap.size := by have := HS1.out; omega
    have hr := below_keeps hb (below_keeps HB3.out R1.out hlt) (Nat.lt_of_lt_of_le hlt HB3.out.size)
    refine wp_val (ex_load _ ⟨w.heap.size, 0, none⟩ (.tmp 3) _ rfl (hold 3 (fun j hj => low (by decide))) (load_pre (x := .int .u32 (p.x : Int)) (y := .int .i64 (p.n : Int)) ?_ ?_)) ⟨_, rfl, rfl, hb, bR⟩
    ·rw [cell_of_row _ _ _ _ _ _ hr]; rfl
    ·rw [cell_of_row _ _ _ _ _ _ hr]; rfl
   ·intro a u vs hb hold hdep
    have h4 := hdep ⟨4, .data⟩ (by simp) rfl (by decide)
    have h5 := hdep ⟨5, .data⟩ (by simp) rfl (by decide)
    have e4 : a.eval (.tmp 20) = .pointer mp := h4.1.trans h4.2
    have e5 : a.eval (.tmp 21) = pv p := h5.1.trans h5.2
    have e6 : a.eval (.const (.pointer none)) = .pointer none := rfl
    refine wp_call 149 _ _ rfl (enters_of Tryz.func149 (by kernel_rfl) rfl) #[.pointer mp, pv p, .pointer none] (by simp only [List.map_toArray, List.map_cons, List.map_nil, e4, e5, e6]) ?_
    refine (HH.out u (HB3.out.trans (hb.mono HB3.out.size))).mono ?_
    rintro _ u' ⟨m, rfl, m1, m2, hb'⟩
    exact ⟨_, rfl, _, rfl, ⟨m, rfl, m1, m2⟩, hb.trans (hb'.mono hb.size), hb'⟩
  intro vs u hb hF
  have e0 : vs 0 = .pointer (some ⟨tb, 0, none⟩) := hF 0 (by decide)
  obtain ⟨m, e6, m1, m2⟩ := hF 6 (by decide)
  clear hF
  obtain ⟨mq, hmq⟩ := ptr_is m
  rw [hmq] at e6
  simp only [List.drop_succ_cons, List.drop_zero, puts, List.range, List.range.loop, List.foldr, Nat.reduceAdd, if_true, e0, e6, Act.put, List.setIfInBounds_toArray, List.set_cons_zero, List.set_cons_succ]
  clear e0 e6
  generalize vs 1 = q1
  generalize vs 2 = q2
  generalize vs 3 = q3
  generalize vs 4 = q4
  generalize vs 5 = q5
  have hlt := (gsl HROW.out)
  have hr := below_keeps hb (below_keeps HB3.out HROW.out hlt) (Nat.lt_of_lt_of_le hlt HB3.out.size)
  have t0 : u.cell? ⟨tb, 0, none⟩ = some (.pointer mp) := crw hr rfl
  have t0f : u.frozen? ⟨tb, 0, none⟩ = false := frozen_of_row _ _ _ _ _ hr
  have HR := hid hr
  have hbu := HB23.out.trans (hb.mono HB23.out.size)
  have hbt : But tb u (u.setCell ⟨tb, 0, none⟩ (.pointer mq)) := But.set _ _ _ _
  have HFIN : Hid (TrieAt (u.setCell ⟨tb, 0, none⟩ (.pointer mq)) Y tb T /\ Chg (fun b => b = tb) w (u.setCell ⟨tb, 0, none⟩ (.pointer mq))) := by
   refine ⟨⟨HMEM.out, fun b hb' => ?_, ⟨m, ?_, m1, m2.chg (Chg.of_but hbt HMEM.out)⟩, HWF.out⟩, (Chg.of_below hbu).trans (Chg.of_but hbt rfl)⟩
   ·have h1 := HLA.out b hb'
    have h2 := hb.size
    have h4 := HB3.out.size
    have h3 := hbt.size
    omega
   ·rw [set_row hr, hmq]; rfl
  have hlt4 := HS4.out
  have RU : (u.setCell ⟨tb, 0, none⟩ (.pointer mq)).heap[w.heap.size + 1]? = some (.cells #[.int .u32 0, .int .i64 0, .int .u32 0, .bool false] 38) := (hbt.block _ (by have := hb.size; have := HS3.out; omega) (by have := HTB.out; omega)).trans (below_keeps hb RU4.out (by have := HS3.out; omega))
  have RW : (u.setCell ⟨tb, 0, none⟩ (.pointer mq)).heap[w3.heap.size]? = some (.cells #[.int .u32 (v.x : Int), .int .i64 v.n, .int .u32 (v.via : Int), .bool v.loc] 38) := (hbt.block _ (by have := hb.size; omega) (by have := HTB.out; have := HS3.out; omega)).trans (below_keeps hb R44.out hlt4)
  clear hlt hr hb m1 m2 hbu hbt hmq hlt4
  have x0 : (u.setCell ⟨tb, 0, none⟩ (.pointer mq)).cell? ⟨w3.heap.size, 0, none⟩ = some (.int .u32 (v.x : Int)) := crw RW rfl
  have x1 : (u.setCell ⟨tb, 0, none⟩ (.pointer mq)).cell? ⟨w3.heap.size, 1, none⟩ = some (.int .i64 v.n) := crw RW rfl
  have x2 : (u.setCell ⟨tb, 0, none⟩ (.pointer mq)).cell? ⟨w3.heap.size, 2, none⟩ = some (.int .u32 (v.via : Int)) := crw RW rfl
  have x3 : (u.setCell ⟨tb, 0, none⟩ (.pointer mq)).cell? ⟨w3.heap.size, 3, none⟩ = some (.bool v.loc) := crw RW rfl
  have y0 : (u.setCell ⟨tb, 0, none⟩ (.pointer mq)).cell? ⟨w.heap.size + 1, 0, none⟩ = some (.int .u32 0) := crw RU rfl
  have z0 : (u.setCell ⟨tb, 0, none⟩ (.pointer mq)).frozen? ⟨w.heap.size + 1, 0, none⟩ = false := frozen_of_row _ _ _ _ _ RU
  have y1 : (u.setCell ⟨tb, 0, none⟩ (.pointer mq)).cell? ⟨w.heap.size + 1, 1, none⟩ = some (.int .i64 0) := crw RU rfl
  have z1 : (u.setCell ⟨tb, 0, none⟩ (.pointer mq)).frozen? ⟨w.heap.size + 1, 1, none⟩ = false := frozen_of_row _ _ _ _ _ RU
  have y2 : (u.setCell ⟨tb, 0, none⟩ (.pointer mq)).cell? ⟨w.heap.size + 1, 2, none⟩ = some (.int .u32 0) := crw RU rfl
  have z2 : (u.setCell ⟨tb, 0, none⟩ (.pointer mq)).frozen? ⟨w.heap.size + 1, 2, none⟩ = false := frozen_of_row _ _ _ _ _ RU
  have y3 : (u.setCell ⟨tb, 0, none⟩ (.pointer mq)).cell? ⟨w.heap.size + 1, 3, none⟩ = some (.bool false) := crw RU rfl
  have z3 : (u.setCell ⟨tb, 0, none⟩ (.pointer mq)).frozen? ⟨w.heap.size + 1, 3, none⟩ = false := frozen_of_row _ _ _ _ _ RU
  obtain ⟨wf, hwf⟩ : ∃ wf, wf = (((((u.setCell ⟨tb, 0, none⟩ (.pointer mq)).setCell ⟨w.heap.size + 1, 0, none⟩ (.int .u32 (v.x : Int))).setCell ⟨w.heap.size + 1, 1, none⟩ (.int .i64 v.n)).setCell ⟨w.heap.size + 1, 2, none⟩ (.int .u32 (v.via : Int))).setCell ⟨w.heap.size + 1, 3, none⟩ (.bool v.loc)) := ⟨_, rfl⟩
  have cf : Chg (fun b => b = w.heap.size + 1) (u.setCell ⟨tb, 0, none⟩ (.pointer mq)) wf := by rw [hwf]; exact ((((Chg.of_but (X := fun b => b = w.heap.size + 1) (But.set _ 0 _ _) rfl).trans (Chg.of_but (X := fun b => b = w.heap.size + 1) (But.set _ 1 _ _) rfl)).trans (Chg.of_but (X := fun b => b = w.heap.size + 1) (But.set _ 2 _ _) rfl)).trans (Chg.of_but (X := fun b => b = w.heap.size + 1) (But.set _ 3 _ _) rfl))
  have rf : wf.heap[w.heap.size + 1]? = some (.cells #[.int .u32 (v.x : Int), .int .i64 v.n, .int .u32 (v.via : Int), .bool v.loc] 38) := by rw [hwf]; exact set_row (set_row (set_row (set_row RU)))
  have HWF4 := hid hwf
  have HFF : Hid (Chg (fun b => b = w.heap.size + 1) (u.setCell ⟨tb, 0, none⟩ (.pointer mq)) wf /\ wf.heap[w.heap.size + 1]? = some (.cells #[.int .u32 (v.x : Int), .int .i64 v.n, .int .u32 (v.via : Int), .bool v.loc] 38)) := ⟨cf, rf⟩
  clear hwf cf rf RU RW
  go_wp2_with fail
  rw [<- HWF4.out]
  obtain ⟨cf, rf⟩ := HFF.out
  have u0 : wf.cell? ⟨w.heap.size + 1, 0, none⟩ = some (.int .u32 (v.x : Int)) := crw rf rfl
  have u1 : wf.cell? ⟨w.heap.size + 1, 1, none⟩ = some (.int .i64 v.n) := crw rf rfl
  have u2 : wf.cell? ⟨w.heap.size + 1, 2, none⟩ = some (.int .u32 (v.via : Int)) := crw rf rfl
  have u3 : wf.cell? ⟨w.heap.size + 1, 3, none⟩ = some (.bool v.loc) := crw rf rfl
  have cw : Chg (fun b => b = tb) w wf := ⟨cf.os.trans HFIN.out.2.os, cf.tape.trans HFIN.out.2.tape, cf.output.trans HFIN.out.2.output, Nat.le_trans HFIN.out.2.size cf.size, fun j hj hn => (cf.block j (Nat.lt_of_lt_of_le hj HFIN.out.2.size) (by omega)).trans (HFIN.out.2.block j hj hn)⟩
  refine bodyPost_ret (v := .tuple #[.agg #[.int .u32 (v.x : Int), .int .i64 v.n, .int .u32 (v.via : Int), .bool v.loc], .int .i64 0]) (by simp [results, Tryz.results145, go_sem, u0, u1, u2, u3]) rfl ⟨rfl, ?_, cw⟩
  obtain ⟨t1, t2, ⟨m', t3, t4, t5⟩, t6⟩ := HFIN.out.1
  exact ⟨HMX.out, fun b hx => Nat.lt_of_lt_of_le (t2 b (HXY.out b hx)) cf.size, ⟨m', (cf.block tb (gsl t3) (by have := HTB.out; omega)).trans t3, t4, (t5.chg (cf.mono fun j e => by rw [e]; exact HYR.out)).more fun j hj => .inl (HXY.out j hj)⟩, t6⟩
end Go.Proofs.YtpdnnikkaojnkaaGreat.Rt
namespace Go.Proofs.YtpdnnikkaojnkaaGreat.Rt
open Go.Proofs.YtpdnnikkaojnkaaGreat Go.ChangeShapes Go.WideShapes Go.ChangeAt Go.RowKit Go.Shelf Tri N
set_option maxHeartbeats 4000000
set_option maxRecDepth 100000
theorem len_any {X : Nat -> Prop} {tb : Nat} {t : Tr} (w : World) (hT : TrieAt w X tb t) :
  Calls Tryz.prog 161 #[.pointer (some ⟨tb, 0, none⟩)] w fun e w' => e = .returned (.int .i64 (vals t : Int)) /\ Below w.heap.size w w' := by
 obtain ⟨_, _, ⟨m, hrow, hmt, hL⟩, _⟩ := hT
 subst hmt
 have t0 : w.cell? ⟨tb, 0, none⟩ = some m.ptr := crw hrow rfl
 have HC := hid (counted_any m w hL)
 clear hrow hL
 have hfl : ∀ u : World, (Instr.field 159 (.agg #[.int .i64 (vals m.tr : Int), .int .i64 (nodes m.tr : Int)]) 0).run Tryz.prog u = .ok (.int .i64 (vals m.tr : Int)) u := fun u => by kernel_rfl
 go_enter Tryz.func161, Tryz.ntmps161
 cases m <;> (
  unfold MT.ptr at t0 HC
  go_wp2_with fail
  refine HC.out.mono ?_
  rintro _ w1 ⟨rfl, hb⟩
  have HB := hid hb
  clear hb
  go_wp2_with fail
  go_ret
  exact ⟨rfl, HB.out⟩)
theorem new_any (w : World) :
  Calls Tryz.prog 35 #[] w fun e w' => e = .returned (.pointer (some ⟨w.heap.size, 0, none⟩)) /\ w' = w.alloc (.cells #[.pointer none] 139) := by
 go_enter Tryz.func35, Tryz.ntmps35
 go_wp2_with fail
 go_ret
 exact ⟨rfl, rfl⟩
def NoTree (w : World) (Z : Nat -> Prop) : Prop := ∀ b, Z b -> ∀ cs t, w.heap[b]? = some (.cells cs t) -> t ≠ 161 /\ t ≠ 38
theorem Lies.chgT {w w' : World} {X Z : Nat -> Prop} {m : MT} (h : Lies w X m) (hZ : NoTree w Z) (hc : Chg Z w w') : Lies w' X m := by
 induction m with
 | nil => trivial
 | node b c k u l r il ir =>
  obtain ⟨q1, q2, q3, q4, q5⟩ := h
  exact ⟨q1, (hc.block b (gsl q2) (fun hz => (hZ b hz _ _ q2).1 rfl)).trans q2, fun a ha => ⟨(q3 a ha).1, (hc.block c (Array.getElem?_eq_some_iff.1 (q3 a ha).2).1 (fun hz => (hZ c hz _ _ (q3 a ha).2).2 rfl)).trans (q3 a ha).2⟩, il q4, ir q5⟩
theorem kind_no {w : World} {b : Nat} {cs : Array Value} {s : TypeId} (h1 : w.heap[b]? = some (.cells cs s)) (n1 : s ≠ 161) (n2 : s ≠ 38) : ∀ ds t, w.heap[b]? = some (.cells ds t) -> t ≠ 161 /\ t ≠ 38 := fun ds t h => by
 rw [h1] at h
 injection h with h
 injection h with _ h
 subst h
 exact ⟨n1, n2⟩
attribute [local go_sem] Oper.semAt_some
def dstN (i : Nat) : Option Tmp := [some 25, some 26, none, none, some 6].getD i none
theorem dlN {s : Nat} (h : some s ∉ [some 25, some 26, none, none, some 6]) : ∀ j, j < 5 -> dstN j ≠ some s := fun j hj e => h (by
 unfold dstN at e
 rw [<- e, List.getD_eq_getElem?_getD, List.getElem?_eq_getElem (by exact hj)]
 exact List.getElem_mem _)
def FN (l : List Value) (s : Nat) (row row2 : Array Value) (i : Nat) (vs : Nat -> Value) (w : World) : Prop := l[i]? = some (vs i) /\ (i = 2 -> w.heap[s]? = some (.cells row 36)) /\ (i = 3 -> w.heap[s + 1]? = some (.cells row2 38))
def RN (s : Nat) (j : Nat) (w w' : World) : Prop := if j = 2 then But s w w' /\ s + 1 < w.heap.size else if j = 3 then But (s + 1) w w' /\ s < w.heap.size else w'.heap = w.heap
theorem FN.keeps (l : List Value) (s : Nat) (row row2 : Array Value) (ops : List Oper) (I : World -> Prop) : ∀ (i j : Nat) (o : Oper) (vs : Nat -> Value) (v : Value) (w w' : World), i ≠ j -> ops[i]? = some o -> (∀ e ∈ o.after, Region.binds .any e = true -> e.on ≠ j) -> FN l s row row2 i vs w -> I w -> RN s j w w' -> FN l s row row2 i (upd vs j v) w' := fun i j o vs v w w' hij _ _ h _ hr => by
 refine ⟨by rw [upd_ne _ hij]; exact h.1, fun hi => ?_, fun hi => ?_⟩
 ·unfold RN at hr
  rw [if_neg (by omega)] at hr
  by_cases hj : j = 3
  ·rw [if_pos hj] at hr
   exact (hr.1.block s hr.2 (by omega)).trans (h.2.1 hi)
  ·rw [if_neg hj] at hr
   rw [hr]; exact h.2.1 hi
 ·unfold RN at hr
  by_cases hj : j = 2
  ·rw [if_pos hj] at hr
   exact (hr.1.block (s + 1) hr.2 (by omega)).trans (h.2.2 hi)
  ·rw [if_neg hj, if_neg (by omega)] at hr
   rw [hr]; exact h.2.2 hi
theorem wp_stillN {P : Program} {o : Oper} {a : Act} {W w : World} {Q : Exit -> Act -> World -> Prop} {l : List Value} {s : Nat} {row row2 : Array Value} {vs : Nat -> Value} {i : Nat} {d : Option Tmp} {v : Value} (hr : (execOp a.eval o).run P w = .ok (.value v) w) (ht : o.dst = d) (hv : l[i]? = some v) (hi : i ≠ 2 /\ i ≠ 3) (hI : IZ W s w) :
  o.wp P a w (fun a' w' => ∃ v', a' = a.put d v' /\ FN l s row row2 i (upd vs i v') w' /\ IZ W s w' /\ RN s i w w') Q :=
 wp_val hr (by rw [ht]; exact ⟨v, rfl, ⟨by rw [upd_eq]; exact hv, fun e => absurd e hi.1, fun e => absurd e hi.2⟩, hI, by unfold RN; rw [if_neg hi.1, if_neg hi.2]⟩)
theorem ex_build2 {o : Oper} {a : Act} {w : World} (ho : o.op = .build 36 #[]) : (execOp a.eval o).run Tryz.prog w = .ok (.value (.agg #[.int .u32 0, .int .i64 0])) w := by
 unfold execOp
 simp only [ho]
 kernel_rfl
theorem find_none {X : Nat -> Prop} {tb : Nat} {t : Tr} (a : Nat) (w : World) (hT : TrieAt w X tb t) (hfd : find t a = none) :
  Calls Tryz.prog 55 #[.pointer (some ⟨tb, 0, none⟩), .int .u32 (a : Int)] w fun e w' => e = .returned (.tuple #[.agg #[.int .u32 0, .int .i64 0], .agg #[.int .u32 0, .int .i64 0, .int .u32 0, .bool false], .int .i64 3]) /\ Below w.heap.size w w' := by
 obtain ⟨hmem, hlt, ⟨m, hrow, hmt, hL⟩, hwf⟩ := hT
 have hlt0 := (gsl hrow)
 obtain ⟨w1, hw1⟩ : ∃ w1, w1 = w.alloc (.cells #[.int .u32 0, .int .i64 0] 36) := ⟨_, rfl⟩
 obtain ⟨wb, hwb⟩ : ∃ wb, wb = w1.alloc (.cells #[.int .u32 0, .int .i64 0, .int .u32 0, .bool false] 38) := ⟨_, rfl⟩
 obtain ⟨w2, hw2⟩ : ∃ w2, w2 = wb.alloc (.cells #[.pointer none] 137) := ⟨_, rfl⟩
 obtain ⟨w3, hw3⟩ : ∃ w3, w3 = w2.alloc (.cells #[m.ptr] 137) := ⟨_, rfl⟩
 obtain ⟨w4, hw4⟩ : ∃ w4, w4 = w3.alloc (.cells #[.int .u32 (a : Int)] 34) := ⟨_, rfl⟩
 have hs1 : w1.heap.size = w.heap.size + 1 := by rw [hw1]; simp
 have hsb : wb.heap.size = w.heap.size + 2 := by rw [hwb]; simp; omega
 have hs2 : w2.heap.size = w.heap.size + 3 := by rw [hw2]; simp; omega
 have hs3 : w3.heap.size = w.heap.size + 4 := by rw [hw3]; simp; omega
 have hs4 : w4.heap.size = w.heap.size + 5 := by rw [hw4]; simp; omega
 have b1 : Below w.heap.size w w1 := by rw [hw1]; exact bR.alloc nL _
 have bb : Below w1.heap.size w1 wb := by rw [hwb]; exact bR.alloc nL _
 have b2 : Below wb.heap.size wb w2 := by rw [hw2]; exact bR.alloc nL _
 have b3 : Below w2.heap.size w2 w3 := by rw [hw3]; exact bR.alloc nL _
 have b4 : Below w3.heap.size w3 w4 := by rw [hw4]; exact bR.alloc nL _
 have b02 : Below w.heap.size w w2 := (b1.trans (bb.mono (by omega))).trans (b2.mono (by omega))
 have b04 : Below w.heap.size w w4 := b02.trans ((b3.trans (b4.mono (by omega))).mono (by omega))
 have r0 : w4.heap[w.heap.size]? = some (.cells #[.int .u32 0, .int .i64 0] 36) := by
  rw [b4.block _ (by omega), b3.block _ (by omega), b2.block _ (by omega), bb.block _ (by omega), hw1]; exact heap_alloc_new w _
 have rv : w4.heap[w.heap.size + 1]? = some (.cells #[.int .u32 0, .int .i64 0, .int .u32 0, .bool false] 38) := by
  rw [b4.block _ (by omega), b3.block _ (by omega), b2.block _ (by omega), hwb, <- hs1]; exact heap_alloc_new w1 _
 have r1 : w4.heap[w.heap.size + 2]? = some (.cells #[.pointer none] 137) := by
  rw [b4.block _ (by omega), b3.block _ (by omega), hw2, <- hsb]; exact heap_alloc_new wb _
 have r2 : w4.heap[w.heap.size + 3]? = some (.cells #[m.ptr] 137) := by
  rw [b4.block _ (by omega), hw3, <- hs2]; exact heap_alloc_new w2 _
 have r3 : w4.heap[w.heap.size + 4]? = some (.cells #[.int .u32 (a : Int)] 34) := by
  rw [hw4, <- hs3]; exact heap_alloc_new w3 _
 have HW2 : Hid (w2 = ((w.alloc (.cells #[.int .u32 0, .int .i64 0] 36)).alloc (.cells #[.int .u32 0, .int .i64 0, .int .u32 0, .bool false] 38)).alloc (.cells #[.pointer none] 137)) := by unfold Hid; rw [hw2, hwb, hw1]
 have HHD := hid (holding_any m a w2)
 rw [<- hw3, <- hw4, hs2] at HHD
 have t0 : w2.cell? ⟨tb, 0, none⟩ = some m.ptr := by rw [cell_of_row _ _ _ _ _ _ (below_keeps b02 hrow hlt0)]; rfl
 obtain ⟨mp, hmp⟩ := ptr_is m
 have HI0 : Hid (w.heap.size + 5 <= w4.heap.size /\ Below w.heap.size w w4 /\ (w4.heap[w.heap.size]? = some (.cells #[.int .u32 0, .int .i64 0] 36) /\ w4.heap[w.heap.size + 1]? = some (.cells #[.int .u32 0, .int .i64 0, .int .u32 0, .bool false] 38)) /\ w4.heap[w.heap.size + 2]? = some (.cells #[(lvF .nil ((path m a).take 0)).ptr] 137) /\ w4.heap[w.heap.size + 3]? = some (.cells #[m.ptr] 137) /\ w4.heap[w.heap.size + 4]? = some (.cells #[.int .u32 (a : Int)] 34)) :=
  ⟨by omega, b04, ⟨r0, rv⟩, r1, r2, r3⟩
 have HS4 := hid hs4
 have HL := hid hL
 have HWF : Hid (WF top.x (top.x + top.s) m.tr) := by unfold Hid; rw [hmt]; exact hwf
 have HMT := hid hmt
 rw [hmp] at t0 HHD
 have HMP := hid hmp
 clear hwb hsb bb rv hw1 hw2 hw3 hw4 hs1 hs2 hs3 hs4 b1 b2 b3 b4 b02 b04 r0 r1 r2 r3 hrow hL hwf hlt hmem hmp hmt
 refine (callsIn_wide (n := 9)).1 ?_
 refine callsIn_of_wp_marks Tryz.func55 rfl trivial ?_ rfl
 refine wpIn_wide.2 ?_
 simp only [Tryz.ntmps55, List.size_toArray, List.length_cons, List.length_nil, Nat.reduceAdd, Nat.reduceSub, Array.replicate_succ, Array.replicate_zero, List.push_toArray, List.append_toArray, List.nil_append, List.cons_append]
 go_upto_region 2 with fail
 rw [<- HW2.out]
 go_wp2_with fail
 refine HHD.out.mono ?_
 rintro _ _ ⟨rfl, ew⟩
 obtain rfl := ew.symm
 go_wp2_with fail
 refine wpIn_wide.1 (wpIn_gives (n := 9) (F := Fence.wide) rfl (by omega) (gf := 91) (lb := #[.pointer (some ⟨w.heap.size + 3, 0, none⟩), .pointer (some ⟨w.heap.size + 3 + 1, 0, none⟩)]) rfl trivial (enters_of Tryz.func91 (by kernel_rfl) rfl)
  (holding_gives 8 (by omega) X (w.heap.size + 3) (w.heap.size + 3 + 1) m a HWF.out) (fun _ => rfl)
  (fun k W => w.heap.size + 5 <= W.heap.size /\ Below w.heap.size w W /\ (W.heap[w.heap.size]? = some (.cells #[.int .u32 0, .int .i64 0] 36) /\ W.heap[w.heap.size + 1]? = some (.cells #[.int .u32 0, .int .i64 0, .int .u32 0, .bool false] 38)) /\ W.heap[w.heap.size + 2]? = some (.cells #[(lvF .nil ((path m a).take k)).ptr] 137) /\ W.heap[w.heap.size + 3]? = some (.cells #[m.ptr] 137) /\ W.heap[w.heap.size + 4]? = some (.cells #[.int .u32 (a : Int)] 34)) ?hI ?hF ?h0
  (fun q => { tmps := #[.pointer (some ⟨tb, 0, none⟩), .int .u32 (a : Int), undef, undef, .pointer (some ⟨w.heap.size, 0, none⟩), .pointer (some ⟨w.heap.size + 1, 0, none⟩), .int .i64 0, .pointer (some ⟨w.heap.size + 2, 0, none⟩), q.ptr, undef, .pointer (some ⟨tb, 0, none⟩), .pointer (some ⟨tb, 0, none⟩), .pointer (some ⟨tb, 0, none⟩), .pointer mp, .int .u32 (a : Int), .func (.func 91) #[] #[.pointer (some ⟨w.heap.size + 3, 0, none⟩), .pointer (some ⟨w.heap.size + 3 + 1, 0, none⟩)], q.ptr, undef, undef, undef, undef, undef, undef, undef, undef, undef, undef, undef, undef, undef, undef, undef, undef, undef, undef, undef, undef], defers := [] }) ?assign ?body ?done)
 case hI =>
  rw [HS4.out]
  refine ownFrom_below' (fun k W hi => hi.1) ?_
  rintro k W W' ⟨i1, i2, i3, i4, i5, i6⟩ hb
  exact ⟨Nat.le_trans i1 hb.size, i2.trans (hb.mono (by omega)), ⟨below_keeps hb i3.1 (by omega), below_keeps hb i3.2 (by omega)⟩, below_keeps hb i4 (by omega), below_keeps hb i5 (by omega), below_keeps hb i6 (by omega)⟩
 case hF =>
  rintro k W ⟨i1, i2, i3, i4, i5, i6⟩
  exact ⟨i5, i6, HL.out.below i2⟩
 case h0 => exact HI0.out
 case assign =>
  intro l x W K hK
  obtain ⟨xp, hxp⟩ := ptr_is x
  rw [hxp] at hK ⊢
  gi_wp2
  exact hK
 case body =>
  rintro l k x W ⟨i1, i2, i3, i4, i5, i6⟩ hx
  obtain ⟨⟨b, c, kk, u, lt, rt, rfl⟩, hxl⟩ := path_node (List.mem_of_getElem? hx)
  obtain ⟨_, hrow, _, _, _⟩ := hxl _ _ (HL.out.below i2)
  have HTK := hid (take_snoc hx)
  cases u with
  | none =>
   have n2 : W.cell? ⟨b, 2, none⟩ = some (.pointer none) := crw hrow rfl
   have HFIN : Hid (KeepsFrom w4.heap.size W W /\ w.heap.size + 5 <= W.heap.size /\ Below w.heap.size w W /\ (W.heap[w.heap.size]? = some (.cells #[.int .u32 0, .int .i64 0] 36) /\ W.heap[w.heap.size + 1]? = some (.cells #[.int .u32 0, .int .i64 0, .int .u32 0, .bool false] 38)) /\ W.heap[w.heap.size + 2]? = some (.cells #[(lvF .nil ((path m a).take (k + 1))).ptr] 137) /\ W.heap[w.heap.size + 3]? = some (.cells #[m.ptr] 137) /\ W.heap[w.heap.size + 4]? = some (.cells #[.int .u32 (a : Int)] 34)) := by
    refine ⟨KeepsFrom.refl _ _, i1, i2, i3, ?_, i5, i6⟩
    rw [HTK.out, lvF_snoc]
    exact i4
   clear hrow i1 i2 i3 i4 i5 i6 hx hxl
   rw [show (MT.node b c kk none lt rt).ptr = .pointer (some ⟨b, 0, none⟩) from rfl]
   gi_wp2
   exact HFIN.out
  | some v =>
   have n2 : W.cell? ⟨b, 2, none⟩ = some (.pointer (some ⟨c, 0, none⟩)) := crw hrow rfl
   obtain ⟨lp, hlp⟩ := ptr_is (lvF .nil ((path m a).take k))
   have hc : W.cell? ⟨w.heap.size + 2, 0, none⟩ = some (.pointer lp) := by rw [<- hlp, cell_of_row _ _ _ _ _ _ i4]; rfl
   have hf : W.frozen? ⟨w.heap.size + 2, 0, none⟩ = false := frozen_of_row _ _ _ _ _ i4
   obtain ⟨W2, hW2⟩ : ∃ W2, W2 = W.setCell ⟨w.heap.size + 2, 0, none⟩ (.pointer (some ⟨b, 0, none⟩)) := ⟨_, rfl⟩
   have hbt : But (w.heap.size + 2) W W2 := by rw [hW2]; exact But.set _ _ _ _
   have HFIN : Hid (KeepsFrom w4.heap.size W W2 /\ w.heap.size + 5 <= W2.heap.size /\ Below w.heap.size w W2 /\ (W2.heap[w.heap.size]? = some (.cells #[.int .u32 0, .int .i64 0] 36) /\ W2.heap[w.heap.size + 1]? = some (.cells #[.int .u32 0, .int .i64 0, .int .u32 0, .bool false] 38)) /\ W2.heap[w.heap.size + 2]? = some (.cells #[(lvF .nil ((path m a).take (k + 1))).ptr] 137) /\ W2.heap[w.heap.size + 3]? = some (.cells #[m.ptr] 137) /\ W2.heap[w.heap.size + 4]? = some (.cells #[.int .u32 (a : Int)] 34)) := by
    refine ⟨by rw [hW2]; exact (KeepsOthers.setCell _ _ _).from _, Nat.le_trans i1 hbt.size, hbt.below i2 (by omega) (by omega), ⟨(hbt.block _ (by omega) (by omega)).trans i3.1, (hbt.block _ (by omega) (by omega)).trans i3.2⟩, ?_, (hbt.block _ (by omega) (by omega)).trans i5, (hbt.block _ (by omega) (by omega)).trans i6⟩
    rw [HTK.out, lvF_snoc, hW2, set_row i4]
    rfl
   have HW2' := hid hW2
   clear hrow i1 i2 i3 i4 i5 i6 hx hxl hbt hW2 hlp
   rw [show (MT.node b c kk (some v) lt rt).ptr = .pointer (some ⟨b, 0, none⟩) from rfl]
   gi_wp2
   rw [<- HW2'.out]
   exact HFIN.out
 case done =>
  rintro D W hD ⟨i1, i2, i3, i4, i5, i6⟩ hK
  rw [List.take_length] at i4
  have HKD := hid hK
  have HDD := hid hD
  have HI1 := hid i1
  have HI2 := hid i2
  have HI3 := hid i3
  rcases lv_find m a .nil with ⟨h1, h2⟩ | ⟨b, c, k, v, l, r, h1, h2, h3⟩
  ·rw [h2] at i4
   have y0 : W.cell? ⟨w.heap.size + 2, 0, none⟩ = some (.pointer none) := crw i4 rfl
   obtain ⟨Wn, hWn⟩ : ∃ Wn, Wn = W.alloc (.cells #[.int .u32 0, .int .i64 0, .int .u32 0, .bool false] 38) := ⟨_, rfl⟩
   have hbn : Below W.heap.size W Wn := by rw [hWn]; exact bR.alloc nL _
   have rn : Wn.heap[W.heap.size]? = some (.cells #[.int .u32 0, .int .i64 0, .int .u32 0, .bool false] 38) := by rw [hWn]; exact heap_alloc_new W _
   have j3 : Wn.heap[w.heap.size]? = some (.cells #[.int .u32 0, .int .i64 0] 36) /\ Wn.heap[w.heap.size + 1]? = some (.cells #[.int .u32 0, .int .i64 0, .int .u32 0, .bool false] 38) := ⟨below_keeps hbn i3.1 (by omega), below_keeps hbn i3.2 (by omega)⟩
   have HWN := hid hWn
   have HRN := hid rn
   have HJ3 := hid j3
   have HBN : Hid (Below w.heap.size w Wn) := i2.trans (hbn.mono (by omega))
   have HLW : Hid (w.heap.size + 1 < W.heap.size /\ W.heap.size < Wn.heap.size) := ⟨by omega, (gsl rn)⟩
   have HKN : Hid (Wn.heap[D]? = some (.deferred (some []))) := below_keeps hbn hK (gsl hK)
   clear i1 i2 i3 i4 i5 i6 hK hD h1 h2 hWn hbn rn j3
   go_upto_region 8 with fail
   rw [<- HWN.out]
   refine wp_region_all' 5 dstN (FN [.agg #[.int .u32 0, .int .i64 0], .agg #[.int .u32 0, .int .i64 0, .int .u32 0, .bool false], undef, undef, .int .i64 3] w.heap.size #[.int .u32 0, .int .i64 0] #[.int .u32 0, .int .i64 0, .int .u32 0, .bool false]) (IZ Wn w.heap.size) (RN w.heap.size) (by kernel_rfl) (by kernel_rfl) ⟨⟨rfl, rfl, rfl, nL, fun _ _ _ => rfl⟩, ⟨_, _, HJ3.out.1⟩, _, _, _, _, HJ3.out.2⟩ (FN.keeps _ _ _ _ _ _) ?_ ?_
   ·simp only [N.stepsAll]
    refine ⟨?_, ?_, ?_, ?_, ?_, trivial⟩
    ·intro a' u vs hI hold hdep
     exact wp_stillN (ex_build2 rfl) rfl rfl ⟨by decide, by decide⟩ hI
    ·intro a' u vs hI hold hdep
     have hr : u.heap[W.heap.size]? = some (.cells #[.int .u32 0, .int .i64 0, .int .u32 0, .bool false] 38) := (hI.1.block _ HLW.out.2 (by have := HLW.out.1; show ¬ (W.heap.size = w.heap.size \/ W.heap.size = w.heap.size + 1); omega)).trans HRN.out
     exact wp_stillN (ex_load _ ⟨W.heap.size, 0, none⟩ (.tmp 9) _ rfl (hold 9 (dlN (by decide))) (load_vl (v := ⟨0, 0, 0, false⟩) (crw hr rfl) (crw hr rfl) (crw hr rfl) (crw hr rfl))) rfl rfl ⟨by decide, by decide⟩ hI
    ·intro a' u vs hI hold hdep
     have e : a'.eval (.tmp 25) = .agg #[.int .u32 0, .int .i64 0] := by have h0 := hdep ⟨0, .data⟩ (by simp) rfl; exact (h0.2 25 rfl).trans (Option.some.inj h0.1.1).symm
     obtain ⟨hbI, ⟨x, y, hxy⟩, y0, y1, y2, y3, hI2⟩ := hI
     refine wp_store_row 36 (.tmp 4) (.tmp 25) rfl w.heap.size #[.int .u32 0, .int .i64 0] (hold 4 (dlN (by decide))) e _ _ hxy (by kernel_rfl) rfl (by simp [Value.oneCell']) ?_
     have hbt := But.setRow w.heap.size u #[.int .u32 0, .int .i64 0]
     have hr := setRow_heap u w.heap.size _ #[.int .u32 0, .int .i64 0] _ _ hxy
     have hlt : w.heap.size + 1 < u.heap.size := Nat.lt_of_lt_of_le (by have := HLW.out; omega) hbI.size
     exact ⟨undef, rfl, ⟨by rw [upd_eq]; rfl, fun _ => hr, fun e => absurd e (by decide)⟩, ⟨hbI.trans (Chg.of_but hbt (.inl rfl)), ⟨_, _, hr⟩, _, _, _, _, (hbt.block _ hlt (by omega)).trans hI2⟩, by unfold RN; rw [if_pos rfl]; exact ⟨hbt, hlt⟩⟩
    ·intro a' u vs hI hold hdep
     have e : a'.eval (.tmp 26) = .agg #[.int .u32 0, .int .i64 0, .int .u32 0, .bool false] := by have h0 := hdep ⟨1, .data⟩ (by simp) rfl; exact (h0.2 26 rfl).trans (Option.some.inj h0.1.1).symm
     obtain ⟨hbI, ⟨x, y, hxy⟩, y0, y1, y2, y3, hI2⟩ := hI
     refine wp_store_row 38 (.tmp 5) (.tmp 26) rfl (w.heap.size + 1) #[.int .u32 0, .int .i64 0, .int .u32 0, .bool false] (hold 5 (dlN (by decide))) e _ _ hI2 (by kernel_rfl) rfl (by simp [Value.oneCell']) ?_
     have hbt := But.setRow (w.heap.size + 1) u #[.int .u32 0, .int .i64 0, .int .u32 0, .bool false]
     have hr := setRow_heap u (w.heap.size + 1) _ #[.int .u32 0, .int .i64 0, .int .u32 0, .bool false] _ _ hI2
     have hlt : w.heap.size < u.heap.size := by have := Nat.lt_of_lt_of_le HLW.out.2 hbI.size; have := HLW.out.1; omega
     exact ⟨undef, rfl, ⟨by rw [upd_eq]; rfl, fun e => absurd e (by decide), fun _ => hr⟩, ⟨hbI.trans (Chg.of_but hbt (.inr rfl)), ⟨_, _, (hbt.block _ hlt (by omega)).trans hxy⟩, _, _, _, _, hr⟩, by unfold RN; rw [if_neg (by decide), if_pos rfl]; exact ⟨hbt, hlt⟩⟩
    ·intro a' u vs hI hold hdep
     exact wp_stillN (ex_assign (.const (.int .i64 3)) _ rfl rfl) rfl rfl ⟨by decide, by decide⟩ hI
   intro vs W2 hI hF
   have e6 : vs 4 = .int .i64 3 := (Option.some.inj (hF 4 (by decide)).1).symm
   have r4 : W2.heap[w.heap.size]? = some (.cells #[.int .u32 0, .int .i64 0] 36) := (hF 2 (by decide)).2.1 rfl
   have r5 : W2.heap[w.heap.size + 1]? = some (.cells #[.int .u32 0, .int .i64 0, .int .u32 0, .bool false] 38) := (hF 3 (by decide)).2.2 rfl
   have hbt : Chg (fun b => b = w.heap.size \/ b = w.heap.size + 1) Wn W2 := hI.1
   clear hF hI
   simp only [putsO, List.range, List.range.loop, List.foldr, if_true, dstN, List.getD_cons_zero, List.getD_cons_succ, Act.put, e6, List.setIfInBounds_toArray, List.set_cons_succ, List.set_cons_zero]
   generalize vs 0 = z0
   generalize vs 1 = z1
   generalize vs 2 = z2
   generalize vs 3 = z3
   go_wp2_with fail
   have hKz : W2.heap[D]? = some (.deferred (some [])) := (hbt.block D (gsl HKN.out) (by have := HDD.out; have := HS4.out; omega)).trans HKN.out
   have hbz : Below w.heap.size w W2 := ⟨hbt.os.trans HBN.out.os, hbt.tape.trans HBN.out.tape, hbt.output.trans HBN.out.output, Nat.le_trans HBN.out.size hbt.size, fun x hx => (hbt.block x (Nat.lt_of_lt_of_le hx HBN.out.size) (by omega)).trans (HBN.out.block x hx)⟩
   have hbf : Below w.heap.size w (W2.putObj D (.deferred none)) := hbz.trans (belowK_b (w := w) nL W2 D _ _ (by have := HDD.out; have := HS4.out; omega) hKz rfl rfl)
   have rz : (W2.putObj D (.deferred none)).heap[w.heap.size]? = some (.cells #[.int .u32 0, .int .i64 0] 36) := (World.putObj_heap_other (by have := HDD.out; have := HS4.out; omega)).trans r4
   have rv : (W2.putObj D (.deferred none)).heap[w.heap.size + 1]? = some (.cells #[.int .u32 0, .int .i64 0, .int .u32 0, .bool false] 38) := (World.putObj_heap_other (by have := HDD.out; have := HS4.out; omega)).trans r5
   have u0 : (W2.putObj D (.deferred none)).cell? ⟨w.heap.size + 1, 0, none⟩ = some (.int .u32 0) := crw rv rfl
   have u1 : (W2.putObj D (.deferred none)).cell? ⟨w.heap.size + 1, 1, none⟩ = some (.int .i64 0) := crw rv rfl
   have u2 : (W2.putObj D (.deferred none)).cell? ⟨w.heap.size + 1, 2, none⟩ = some (.int .u32 0) := crw rv rfl
   have u3 : (W2.putObj D (.deferred none)).cell? ⟨w.heap.size + 1, 3, none⟩ = some (.bool false) := crw rv rfl
   have g0 : (W2.putObj D (.deferred none)).cell? ⟨w.heap.size, 0, none⟩ = some (.int .u32 0) := crw rz rfl
   have g1 : (W2.putObj D (.deferred none)).cell? ⟨w.heap.size, 1, none⟩ = some (.int .i64 0) := crw rz rfl
   refine ⟨by simp, .inl ⟨_, _, rfl, run_takeDeferred hKz, ?_⟩⟩
   refine ⟨_, (by simp [results, Tryz.results55, go_sem, g0, g1, u0, u1, u2, u3]), rfl, hbf⟩
  ·rw [HMT.out, hfd] at h1
   cases h1
end Go.Proofs.YtpdnnikkaojnkaaGreat.Rt
