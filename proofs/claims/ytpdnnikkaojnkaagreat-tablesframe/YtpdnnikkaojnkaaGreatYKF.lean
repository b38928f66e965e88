import Derived.Test.YtpdnnikkaojnkaaGreatYKEF
import Derived.Test.YtpdnnikkaojnkaaGreatZD
namespace Go.Proofs.YtpdnnikkaojnkaaGreat.Rt
open Go.Proofs.YtpdnnikkaojnkaaGreat Go.ChangeShapes Go.WideShapes Go.ChangeAt Go.RowKit Go.Maps Tri N
set_option maxHeartbeats 4000000
set_option maxRecDepth 100000
def gtK (q p : K) : Prop := p.x < q.x \/ (q.x = p.x /\ p.n < q.n)
def RisE (L : List (K × Vt)) : Prop := (L.map Prod.fst).Pairwise fun a b => gtK b a
theorem gtK.irr {a : K} (h : gtK a a) : False := by
 unfold gtK at h
 omega
theorem RisE.nil : RisE [] := List.Pairwise.nil
theorem RisE.cons {e : K × Vt} {L : List (K × Vt)} : RisE (e :: L) ↔ (∀ f ∈ L, gtK f.1 e.1) /\ RisE L := by
 unfold RisE
 rw [List.map_cons, List.pairwise_cons]
 constructor
 ·rintro ⟨h1, h2⟩; exact ⟨fun f hf => h1 _ (List.mem_map_of_mem hf), h2⟩
 ·rintro ⟨h1, h2⟩
  refine ⟨fun x hx => ?_, h2⟩
  obtain ⟨f, hf, rfl⟩ := List.mem_map.1 hx
  exact h1 f hf
theorem RisE.app {A B : List (K × Vt)} : RisE (A ++ B) ↔ RisE A /\ RisE B /\ ∀ a ∈ A, ∀ b ∈ B, gtK b.1 a.1 := by
 unfold RisE
 rw [List.map_append, List.pairwise_append]
 constructor
 ·rintro ⟨h1, h2, h3⟩; exact ⟨h1, h2, fun a ha b hb => h3 _ (List.mem_map_of_mem ha) _ (List.mem_map_of_mem hb)⟩
 ·rintro ⟨h1, h2, h3⟩
  refine ⟨h1, h2, fun x hx y hy => ?_⟩
  obtain ⟨a, ha, rfl⟩ := List.mem_map.1 hx
  obtain ⟨b, hb, rfl⟩ := List.mem_map.1 hy
  exact h3 a ha b hb
theorem ents_ris {lo hi : Nat} {t : Tr} (h : WF lo hi t) : RisE (ents t) := by
 induction t generalizing lo hi with
 | nil => exact RisE.nil
 | node k u l r il ir =>
  obtain ⟨a, b, c, d, e, f⟩ := h
  have h2 := h2_le k
  have below : ∀ x : K × Vt, x.1.Ok -> k.x <= x.1.x -> x.1.x + x.1.s <= k.x + k.s -> x.1 ≠ k -> gtK x.1 k := fun x h1 h3 h4 h5 => by
   have := (halves h1 a ⟨h3, h4⟩ h5).1
   unfold gtK
   omega
  rw [ents]
  refine RisE.app.2 ⟨?_, RisE.app.2 ⟨il d, ir e, fun x hx y hy => ?_⟩, fun x hx y hy => ?_⟩
  ·cases u with
   | none => exact RisE.nil
   | some v => exact RisE.cons.2 ⟨fun f hf => by (simp at hf), RisE.nil⟩
  ·have h3 := ents_in d x hx
   have h4 := ents_in e y hy
   have := x.1.s_pos
   unfold gtK
   omega
  ·rw [mem_own] at hx
   rw [hx.1]
   rcases List.mem_append.1 hy with hy | hy
   ·have h3 := ents_in d y hy
    exact below y h3.1 (by omega) (by omega) (kid_ne h3 (.inl nL))
   ·have h3 := ents_in e y hy
    exact below y h3.1 (by omega) (by omega) (kid_ne h3 (.inr ⟨nL, nL⟩))
theorem vals_len (t : Tr) : vals t = (ents t).length := by
 induction t with
 | nil => rfl
 | node k u l r il ir =>
  rw [vals, ents, il, ir]
  cases u <;> simp [own] <;> omega
theorem ents_nodup {lo hi : Nat} {t : Tr} (h : WF lo hi t) : (ents t).Nodup := by
 have := ents_ris h
 unfold RisE at this
 rw [List.pairwise_map] at this
 exact this.imp fun hg e => by rw [e] at hg; exact hg.irr
structure Hld (t : Tr) (R : List Vt) : Prop where
 mem : ∀ k v, (k, v) ∈ ents t ↔ v ∈ R /\ v.k = k
 nod : Nod Tri.Vt.key R
 ok : ∀ v ∈ R, v.Ok
theorem Vt_key_k {v u : Vt} (hv : v.Ok) (hu : u.Ok) : v.key = u.key ↔ v.k = u.k := by
 obtain ⟨-, n1⟩ := Vt_k_ok hv
 obtain ⟨-, n2⟩ := Vt_k_ok hu
 unfold Tri.Vt.key
 constructor
 ·intro h
  simp only [Prod.mk.injEq] at h
  exact K.ext' h.1 (by omega)
 ·intro h
  have e1 : v.x = u.x := congrArg K.x h
  have e2 : v.k.n = u.k.n := congrArg K.n h
  rw [e1, n1, n2, e2]
theorem Hld.nil : Hld .nil [] := ⟨fun k v => by simp [ents], List.nodup_nil, fun v hv => by cases hv⟩
theorem nod_self {R : List Vt} (h : Nod Tri.Vt.key R) : R.Nodup := by
 unfold Nod at h
 rw [List.Nodup, List.pairwise_map] at h
 exact h.imp fun hne e => hne (by rw [e])
theorem Hld.len {lo hi : Nat} {t : Tr} {R : List Vt} (h : Hld t R) (hW : WF lo hi t) : vals t = R.length := by
 rw [vals_len]
 have h1 : (ents t).length <= (R.map fun v => (v.k, v)).length := nodup_le (ents_nodup hW) fun e he => by
  obtain ⟨k, v⟩ := e
  obtain ⟨h1, h2⟩ := (h.mem k v).1 he
  exact List.mem_map.2 ⟨v, h1, by rw [h2]⟩
 have hn : (R.map fun v => (v.k, v)).Nodup := by
  rw [List.Nodup, List.pairwise_map]
  exact (nod_self h.nod).imp fun hne e => hne (congrArg Prod.snd e)
 have h2 : (R.map fun v => (v.k, v)).length <= (ents t).length := nodup_le hn fun e he => by
  obtain ⟨v, hv, rfl⟩ := List.mem_map.1 he
  exact (h.mem _ _).2 ⟨hv, rfl⟩
 simp only [List.length_map] at h1 h2
 omega
theorem Hld.look {lo hi : Nat} {t : Tr} {R : List Vt} (h : Hld t R) (hW : WF lo hi t) {r : Vt} (hr : r.Ok) : lookT t r.k = lk Tri.Vt.key R r.key := by
 cases hl : lk Tri.Vt.key R r.key with
 | some v =>
  obtain ⟨h1, h2⟩ := lk_some hl
  exact lookT_of hW ((h.mem _ _).2 ⟨h1, (Vt_key_k (h.ok v h1) hr).1 h2⟩)
 | none =>
  cases hq : lookT t r.k with
  | none => rfl
  | some v =>
   obtain ⟨h1, h2⟩ := (h.mem _ _).1 (lookT_mem hq)
   exact absurd ((Vt_key_k (h.ok v h1) hr).2 h2) (lk_none hl v h1)
theorem Hld.put {t : Tr} {R : List Vt} (h : Hld t R) (hW : WF top.x (top.x + top.s) t) {r : Vt} (hr : r.Ok) : Hld (hang t r.k (some r)) (putK Tri.Vt.key R r) := by
 obtain ⟨hk, -⟩ := Vt_k_ok hr
 have hf := (hang_facts (v := some r) top_ok hW hk hk.top).2
 refine ⟨fun k v => ?_, h.nod.put r, fun v hv => ?_⟩
 ·rw [hf, mem_put h.nod, h.mem]
  constructor
  ·rintro (⟨h1, h2⟩ | ⟨h1, h2, h3⟩)
   ·simp only [Option.some.injEq] at h2
    simp only at h1
    rw [<- h2]
    exact ⟨.inl rfl, h1.symm⟩
   ·simp only at h1 h2 h3
    exact ⟨.inr ⟨h2, fun e => h1 (by rw [<- h3]; exact (Vt_key_k (h.ok v h2) hr).1 e)⟩, h3⟩
  ·rintro ⟨h1 | ⟨h1, h2⟩, h3⟩
   ·left
    exact ⟨by show k = r.k; rw [<- h3, h1], by rw [h1]⟩
   ·right
    exact ⟨fun e => h2 ((Vt_key_k (h.ok v h1) hr).2 (h3.trans e)), h1, h3⟩
 ·rcases (mem_put h.nod).1 hv with rfl | hv
  ·exact hr
  ·exact h.ok v hv.1
theorem Hld.del {t : Tr} {R : List Vt} (h : Hld t R) (hW : WF top.x (top.x + top.s) t) {r : Vt} (hr : r.Ok) : Hld (delT t r.k) (delK Tri.Vt.key R r.key) := by
 obtain ⟨hk, -⟩ := Vt_k_ok hr
 have hlk := h.look hW hr
 refine ⟨fun k v => ?_, h.nod.del _, fun v hv => h.ok v ((mem_del h.nod).1 hv).1⟩
 rw [mem_del h.nod]
 unfold delT
 split
 ·have hf := (hang_facts (v := none) top_ok hW hk hk.top).2
  rw [hf, h.mem]
  constructor
  ·rintro (⟨_, h2⟩ | ⟨h1, h2, h3⟩)
   ·cases h2
   ·simp only at h1 h2 h3
    exact ⟨⟨h2, fun e => h1 (by rw [<- h3]; exact (Vt_key_k (h.ok v h2) hr).1 e)⟩, h3⟩
  ·rintro ⟨⟨h1, h2⟩, h3⟩
   right
   exact ⟨fun e => h2 ((Vt_key_k (h.ok v h1) hr).2 (h3.trans e)), h1, h3⟩
 ·rename_i hn
  rw [hlk] at hn
  rw [h.mem]
  constructor
  ·rintro ⟨h1, h3⟩
   exact ⟨⟨h1, fun e => hn (by rw [<- e, lk_mem h.nod h1]; rfl)⟩, h3⟩
  ·rintro ⟨⟨h1, _⟩, h3⟩
   exact ⟨h1, h3⟩
theorem Hld.srt {lo hi : Nat} {t : Tr} {R : List Vt} (h : Hld t R) (hW : WF lo hi t) : SrtK Tri.Vt.num ((ents t).map Prod.snd) R := by
 have hr := ents_ris hW
 have hm : ∀ e ∈ ents t, e.2 ∈ R /\ e.2.k = e.1 := fun e he => (h.mem e.1 e.2).1 he
 refine ⟨?_, fun v => ⟨fun hv => ?_, fun hv => List.mem_map.2 ⟨(v.k, v), (h.mem _ _).2 ⟨hv, rfl⟩, rfl⟩⟩⟩
 ·unfold RisBy Ris
  unfold RisE at hr
  rw [List.map_map, List.pairwise_map]
  rw [List.pairwise_map] at hr
  refine hr.imp_of_mem fun {a b} ha hb hg => ?_
  obtain ⟨a1, a2⟩ := hm a ha
  obtain ⟨b1, b2⟩ := hm b hb
  refine (Vt_num_lt (h.ok _ a1) (h.ok _ b1)).2 ?_
  obtain ⟨-, n1⟩ := Vt_k_ok (h.ok _ a1)
  obtain ⟨-, n2⟩ := Vt_k_ok (h.ok _ b1)
  unfold gtK at hg
  rw [<- a2, <- b2] at hg
  have e1 : a.2.k.x = a.2.x := rfl
  have e2 : b.2.k.x = b.2.x := rfl
  omega
 ·obtain ⟨e, he, rfl⟩ := List.mem_map.1 hv
  exact (hm e he).1
structure RtAt (w : World) (X : Nat -> Prop) (rb tb room : Nat) (R : List Vt) : Prop where
 row : w.heap[rb]? = some (.cells #[.int .i64 (room : Int), .pointer (some ⟨tb, 0, none⟩)] 96)
 tree : ∃ t, TrieAt w X tb t /\ Hld t R
 le : R.length <= room /\ room <= 256
 xr : X rb
 ne : rb ≠ tb
theorem RtAt.lt {w : World} {X : Nat -> Prop} {rb tb room : Nat} {R : List Vt} (h : RtAt w X rb tb room R) : rb < w.heap.size /\ tb < w.heap.size := by
 obtain ⟨t, ht, _⟩ := h.tree
 exact ⟨(gsl h.row), ht.lt _ ht.mem⟩
theorem RtAt.below {w w' : World} {X : Nat -> Prop} {rb tb room : Nat} {R : List Vt} (h : RtAt w X rb tb room R) (hb : Below w.heap.size w w') : RtAt w' X rb tb room R := by
 obtain ⟨t, ht, hh⟩ := h.tree
 exact ⟨below_keeps hb h.row h.lt.1, ⟨t, ht.grow hb, hh⟩, h.le, h.xr, h.ne⟩
theorem RtAt.chg {w w' : World} {X Y Z : Nat -> Prop} {rb tb room : Nat} {R : List Vt} (h : RtAt w X rb tb room R) (hc : Chg Z w w') (hZ : ∀ b, Z b -> b < w.heap.size -> X b /\ b ≠ rb /\ b ≠ tb) (hY : ∀ b, Y b -> X b \/ w.heap.size <= b) (hXY : ∀ b, X b -> Y b) (hl : ∀ b, Y b -> b < w'.heap.size) : RtAt w' Y rb tb room R := by
 obtain ⟨t, ⟨t1, t2, ⟨m, t3, t4, t5⟩, t6⟩, hh⟩ := h.tree
 have hlt := h.lt
 have hcY : Chg Y w w' := ⟨hc.os, hc.tape, hc.output, hc.size, fun j hj hn => hc.block j hj fun hz => hn (hXY j (hZ j hz hj).1)⟩
 exact ⟨(hc.block _ hlt.1 (fun hz => (hZ _ hz hlt.1).2.1 rfl)).trans h.row, ⟨t, ⟨hXY _ t1, hl, ⟨m, (hc.block _ hlt.2 (fun hz => (hZ _ hz hlt.2).2.2 rfl)).trans t3, t4, (t5.more hY).chg hcY⟩, t6⟩, hh⟩, h.le, hXY _ h.xr, h.ne⟩
end Go.Proofs.YtpdnnikkaojnkaaGreat.Rt
