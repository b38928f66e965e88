import Derived.Test.YtpdnnikkaojnkaaGreatYQL
namespace Go.Proofs.YtpdnnikkaojnkaaGreat.Rt
open Go.Proofs.YtpdnnikkaojnkaaGreat Go.ChangeShapes Go.WideShapes Go.ChangeAt Go.RowKit Go.Maps Tri N
set_option maxHeartbeats 2000000
set_option maxRecDepth 100000
theorem may_1 {a b : Bool} (h : (a && !b) = true) : ¬ (!a || b) = true := by
 cases a <;> cases b <;> simp_all
theorem may_no {s : Ks} {o : Opv} (h : mayB o = false) : oneE s o = 93 /\ oneS s o = s := by
 have hE : oneE s o = 93 := by
  unfold mayB at h
  unfold oneE
  by_cases k1 : o.kind = 1
  ·rw [if_pos k1] at h ⊢
   rw [if_pos]
   cases hv : valB o.r.x o.r.n with
   | false => simp
   | true => rw [hv] at h; simpa using h
  ·rw [if_neg k1] at h ⊢
   by_cases k2 : o.kind = 2
   ·rw [if_pos k2] at h ⊢
    rw [if_pos (by rw [h]; rfl)]
   ·rw [if_neg k2] at h ⊢
    simp only [decide_eq_false_iff_not] at h
    rw [if_neg (by omega), if_neg (by omega), if_neg (by omega), if_neg (by omega)]
 exact ⟨hE, by unfold oneS; rw [if_pos (by rw [hE]; decide)]⟩
theorem ls3_len {s : Ks} (hok : s.Ok) {A : List Vt} {B : List Nb} {C : List Fd} (h : Ls3 s A B C) : A.length = s.R.length /\ B.length = s.N.length /\ C.length = s.F.length :=
 ⟨h.r.len ((List.pairwise_map.1 hok.rn).imp fun h e => h (by rw [e])), h.n.len ((List.pairwise_map.1 hok.nn).imp fun h e => h (by rw [e])), h.f.len ((List.pairwise_map.1 hok.fn).imp fun h e => h (by rw [e]))⟩
theorem ls3_nod {s : Ks} {A : List Vt} {B : List Nb} {C : List Fd} (h : Ls3 s A B C) : Nod Tri.Vt.key A /\ Nod Nb.ip B /\ Nod Fd.mac C :=
 ⟨srt_nod h.r fun x y e => by
  have e1 : x.x = y.x := congrArg Prod.fst e
  have e2 : x.n = y.n := congrArg Prod.snd e
  unfold Tri.Vt.num
  rw [e1, e2], srt_nod h.n fun x y e => e, srt_nod h.f fun x y e => by rw [e]⟩
theorem ix_iff {α κ : Type} [DecidableEq κ] {key : α -> κ} {A L : List α} (hL : Nod key L) (hm : ∀ e, e ∈ A ↔ e ∈ L) (k : κ) : (ix key A k).isNone = !(lk key L k).isSome := by
 rw [<- lk_same hL hm k, <- ix_lk]
 cases ix key A k <;> rfl
theorem full_yes {s : Ks} (hok : s.Ok) {A : List Vt} {B : List Nb} {C : List Fd} (hl : Ls3 s A B C) {o : Opv} (hm : mayB o = true) (h : fullB A B C s.cr s.cn s.cf o = true) : oneE s o = 4 /\ oneS s o = s := by
 obtain ⟨l1, l2, l3⟩ := ls3_len hok hl
 have hE : oneE s o = 4 := by
  unfold fullB at h
  unfold oneE
  by_cases k1 : o.kind = 1
  ·rw [if_pos k1] at h ⊢
   unfold mayB at hm
   rw [if_pos k1] at hm
   rw [Bool.and_eq_true, decide_eq_true_eq, ix_iff hok.rn hl.r.2] at h
   rw [if_neg (may_1 hm), if_neg (by simpa using h.2), if_pos (by omega)]
  ·rw [if_neg k1] at h ⊢
   by_cases k3 : o.kind = 3
   ·rw [if_pos k3] at h
    rw [if_neg (by omega), if_pos k3]
    rw [Bool.and_eq_true, decide_eq_true_eq, ix_iff hok.nn hl.n.2] at h
    rw [if_neg (by simpa using h.2), if_pos (by omega)]
   ·rw [if_neg k3] at h
    by_cases k5 : o.kind = 5
    ·rw [if_pos k5] at h
     rw [if_neg (by omega), if_neg k3, if_neg (by omega), if_pos k5]
     rw [Bool.and_eq_true, decide_eq_true_eq, ix_iff hok.fn hl.f.2] at h
     rw [if_neg (by simpa using h.2), if_pos (by omega)]
    ·rw [if_neg k5] at h
     cases h
 exact ⟨hE, by unfold oneS; rw [if_pos (by rw [hE]; decide)]⟩
theorem full_no {s : Ks} (hok : s.Ok) {A : List Vt} {B : List Nb} {C : List Fd} (hl : Ls3 s A B C) {o : Opv} (hm : mayB o = true) (h : fullB A B C s.cr s.cn s.cf o = false) : oneE s o = 0 := by
 obtain ⟨l1, l2, l3⟩ := ls3_len hok hl
 unfold fullB at h
 unfold oneE
 unfold mayB at hm
 by_cases k1 : o.kind = 1
 ·rw [if_pos k1] at h hm ⊢
  rw [Bool.and_eq_false_iff, decide_eq_false_iff_not, ix_iff hok.rn hl.r.2] at h
  rw [if_neg (may_1 hm)]
  split
  ·rfl
  ·rename_i hn
   rw [if_neg]
   rcases h with h | h
   ·omega
   ·simp [hn] at h
 ·rw [if_neg k1] at h hm ⊢
  by_cases k2 : o.kind = 2
  ·rw [if_pos k2] at hm ⊢
   rw [if_neg (by rw [hm]; decide)]
  ·rw [if_neg k2] at hm ⊢
   simp only [decide_eq_true_eq] at hm
   by_cases k3 : o.kind = 3
   ·rw [if_pos k3] at h ⊢
    rw [Bool.and_eq_false_iff, decide_eq_false_iff_not, ix_iff hok.nn hl.n.2] at h
    split
    ·rfl
    ·rename_i hn
     rw [if_neg]
     rcases h with h | h
     ·omega
     ·simp [hn] at h
   ·rw [if_neg k3] at h ⊢
    by_cases k4 : o.kind = 4
    ·rw [if_pos k4]
    ·rw [if_neg k4]
     by_cases k5 : o.kind = 5
     ·rw [if_pos k5] at h ⊢
      rw [Bool.and_eq_false_iff, decide_eq_false_iff_not, ix_iff hok.fn hl.f.2] at h
      split
      ·rfl
      ·rename_i hn
       rw [if_neg]
       rcases h with h | h
       ·omega
       ·simp [hn] at h
     ·rw [if_neg k5, if_pos (by omega)]
theorem ris_filter {α : Type} {num : α -> Nat} {L : List α} (h : RisBy num L) (f : α -> Bool) : RisBy num (L.filter f) := by
 unfold RisBy Ris at *
 rw [List.pairwise_map] at *
 exact h.filter f
theorem ris_eq {α : Type} {num : α -> Nat} {S T : List α} (h1 : RisBy num S) (h2 : RisBy num T) (h : ∀ e, e ∈ S ↔ e ∈ T) : S = T := srtK_eq (L := T) ⟨h1, h⟩ ⟨h2, fun _ => Iff.rfl⟩
theorem ix_of_lk {α κ : Type} [DecidableEq κ] {key : α -> κ} {A L : List α} (hA : Nod key A) (hL : Nod key L) (hm : ∀ e, e ∈ A ↔ e ∈ L) {k : κ} {e : α} (h : lk key L k = some e) : ∃ i, ix key A k = some i /\ A[i]? = some e := by
 rw [<- lk_same hL hm k] at h
 have h2 := ix_lk (key := key) (L := A) k
 rw [h] at h2
 cases hi : ix key A k with
 | none => rw [hi] at h2; cases h2
 | some i => exact ⟨i, rfl, (ix_at hi hA).symm.trans h⟩
theorem ix_none_lk {α κ : Type} [DecidableEq κ] {key : α -> κ} {A L : List α} (hL : Nod key L) (hm : ∀ e, e ∈ A ↔ e ∈ L) {k : κ} (h : lk key L k = none) : ix key A k = none := by
 have h2 := ix_iff hL hm k
 rw [h] at h2
 simpa using h2
theorem one_done {s : Ks} (hok : s.Ok) {o : Opv} (ho : o.Ok) (hE : oneE s o = 0) {A A' : List Vt} {B B' : List Nb} {C C' : List Fd} (hl : Ls3 s A B C) (hl' : Ls3 (oneS s o) A' B' C') :
  HasP A' B' C' o /\ A'.filter (fR o) = A.filter (fR o) /\ B'.filter (fN o) = B.filter (fN o) /\ C'.filter (fF o) = C.filter (fF o) := by
 have hok' := hok.one ho
 obtain ⟨nA, nB, nC⟩ := ls3_nod hl'
 have kd : o.kind = 1 \/ o.kind = 2 \/ o.kind = 3 \/ o.kind = 4 \/ o.kind = 5 \/ o.kind = 6 := by
  rcases Decidable.em (o.kind = 1) with h | h1
  ·exact .inl h
  ·rcases Decidable.em (o.kind = 2) with h | h2
   ·exact .inr (.inl h)
   ·rcases Decidable.em (o.kind = 3) with h | h3
    ·exact .inr (.inr (.inl h))
    ·rcases Decidable.em (o.kind = 4) with h | h4
     ·exact .inr (.inr (.inr (.inl h)))
     ·rcases Decidable.em (o.kind = 5) with h | h5
      ·exact .inr (.inr (.inr (.inr (.inl h))))
      ·rcases Decidable.em (o.kind = 6) with h | h6
       ·exact .inr (.inr (.inr (.inr (.inr h))))
       ·unfold oneE at hE
        rw [if_neg h1, if_neg h2, if_neg h3, if_neg h4, if_neg h5, if_neg h6] at hE
        cases hE
 have hS : oneS s o = if o.kind = 1 then { s with R := putK Tri.Vt.key s.R o.r } else if o.kind = 2 then { s with R := delK Tri.Vt.key s.R o.r.key } else if o.kind = 3 then { s with N := putK Nb.ip s.N o.n } else if o.kind = 4 then { s with N := delK Nb.ip s.N o.n.ip } else if o.kind = 5 then { s with F := putK Fd.mac s.F o.f } else { s with F := delK Fd.mac s.F o.f.mac } := by
  unfold oneS
  rw [if_neg (by simpa using hE)]
 have key : o.r.key = (o.r.x, o.r.n) := rfl
 have sameR : (oneS s o).R = s.R -> A' = A := fun h => by
  have := hl'.r
  rw [h] at this
  exact srtK_eq this hl.r
 have sameN : (oneS s o).N = s.N -> B' = B := fun h => by
  have := hl'.n
  rw [h] at this
  exact srtK_eq this hl.n
 have sameF : (oneS s o).F = s.F -> C' = C := fun h => by
  have := hl'.f
  rw [h] at this
  exact srtK_eq this hl.f
 have filR : (∀ e, e ∈ (oneS s o).R -> fR o e = true -> e ∈ s.R) -> (∀ e, e ∈ s.R -> fR o e = true -> e ∈ (oneS s o).R) -> A'.filter (fR o) = A.filter (fR o) := fun h1 h2 => ris_eq (ris_filter hl'.r.1 _) (ris_filter hl.r.1 _) fun e => by
  rw [List.mem_filter, List.mem_filter, hl'.r.2 e, hl.r.2 e]
  exact ⟨fun h => ⟨h1 e h.1 h.2, h.2⟩, fun h => ⟨h2 e h.1 h.2, h.2⟩⟩
 have filN : (∀ e, e ∈ (oneS s o).N -> fN o e = true -> e ∈ s.N) -> (∀ e, e ∈ s.N -> fN o e = true -> e ∈ (oneS s o).N) -> B'.filter (fN o) = B.filter (fN o) := fun h1 h2 => ris_eq (ris_filter hl'.n.1 _) (ris_filter hl.n.1 _) fun e => by
  rw [List.mem_filter, List.mem_filter, hl'.n.2 e, hl.n.2 e]
  exact ⟨fun h => ⟨h1 e h.1 h.2, h.2⟩, fun h => ⟨h2 e h.1 h.2, h.2⟩⟩
 have filF : (∀ e, e ∈ (oneS s o).F -> fF o e = true -> e ∈ s.F) -> (∀ e, e ∈ s.F -> fF o e = true -> e ∈ (oneS s o).F) -> C'.filter (fF o) = C.filter (fF o) := fun h1 h2 => ris_eq (ris_filter hl'.f.1 _) (ris_filter hl.f.1 _) fun e => by
  rw [List.mem_filter, List.mem_filter, hl'.f.2 e, hl.f.2 e]
  exact ⟨fun h => ⟨h1 e h.1 h.2, h.2⟩, fun h => ⟨h2 e h.1 h.2, h.2⟩⟩
 rcases kd with k | k | k | k | k | k
 ·have e : oneS s o = { s with R := putK Tri.Vt.key s.R o.r } := by rw [hS, if_pos k]
  have eR : (oneS s o).R = putK Tri.Vt.key s.R o.r := by rw [e]
  have hne : ∀ v, fR o v = true -> v.key ≠ o.r.key := fun v hv => by unfold fR at hv; rw [decide_eq_false (by omega), Bool.false_or, decide_eq_true_eq] at hv; exact hv
  have hlk : lk Tri.Vt.key (oneS s o).R (o.r.x, o.r.n) = some o.r := by rw [eR, lk_put hok.rn, if_pos key.symm]
  rw [sameN (by rw [e]), sameF (by rw [e])]
  exact ⟨.inl ⟨k, ix_of_lk nA hok'.rn hl'.r.2 hlk⟩, filR (fun v hv hf => by
   rw [eR] at hv
   rcases (mem_put hok.rn).1 hv with h | h
   ·exact absurd (by rw [h]) (hne v hf)
   ·exact h.1) (fun v hv hf => by rw [eR]; exact (mem_put hok.rn).2 (.inr ⟨hv, hne v hf⟩)), rfl, rfl⟩
 ·have e : oneS s o = { s with R := delK Tri.Vt.key s.R o.r.key } := by rw [hS, if_neg (by omega), if_pos k]
  have eR : (oneS s o).R = delK Tri.Vt.key s.R o.r.key := by rw [e]
  have hne : ∀ v, fR o v = true -> v.key ≠ o.r.key := fun v hv => by unfold fR at hv; rw [decide_eq_false (by omega), Bool.false_or, decide_eq_true_eq] at hv; exact hv
  have hlk : lk Tri.Vt.key (oneS s o).R (o.r.x, o.r.n) = none := by rw [eR, lk_del hok.rn, if_pos key.symm]
  rw [sameN (by rw [e]), sameF (by rw [e])]
  exact ⟨.inr (.inl ⟨k, ix_none_lk hok'.rn hl'.r.2 hlk⟩), filR (fun v hv _ => by rw [eR] at hv; exact ((mem_del hok.rn).1 hv).1) (fun v hv hf => by rw [eR]; exact (mem_del hok.rn).2 ⟨hv, hne v hf⟩), rfl, rfl⟩
 ·have e : oneS s o = { s with N := putK Nb.ip s.N o.n } := by rw [hS, if_neg (by omega), if_neg (by omega), if_pos k]
  have eN : (oneS s o).N = putK Nb.ip s.N o.n := by rw [e]
  have hne : ∀ v, fN o v = true -> v.ip ≠ o.n.ip := fun v hv => by unfold fN at hv; rw [decide_eq_false (by omega), decide_eq_false (by omega), Bool.false_or, Bool.false_or, decide_eq_true_eq] at hv; exact hv
  have hlk : lk Nb.ip (oneS s o).N o.n.ip = some o.n := by rw [eN, lk_put hok.nn, if_pos rfl]
  rw [sameR (by rw [e]), sameF (by rw [e])]
  exact ⟨.inr (.inr (.inl ⟨k, ix_of_lk nB hok'.nn hl'.n.2 hlk⟩)), rfl, filN (fun v hv hf => by
   rw [eN] at hv
   rcases (mem_put hok.nn).1 hv with h | h
   ·exact absurd (by rw [h]) (hne v hf)
   ·exact h.1) (fun v hv hf => by rw [eN]; exact (mem_put hok.nn).2 (.inr ⟨hv, hne v hf⟩)), rfl⟩
 ·have e : oneS s o = { s with N := delK Nb.ip s.N o.n.ip } := by rw [hS, if_neg (by omega), if_neg (by omega), if_neg (by omega), if_pos k]
  have eN : (oneS s o).N = delK Nb.ip s.N o.n.ip := by rw [e]
  have hne : ∀ v, fN o v = true -> v.ip ≠ o.n.ip := fun v hv => by unfold fN at hv; rw [decide_eq_false (by omega), decide_eq_false (by omega), Bool.false_or, Bool.false_or, decide_eq_true_eq] at hv; exact hv
  have hlk : lk Nb.ip (oneS s o).N o.n.ip = none := by rw [eN, lk_del hok.nn, if_pos rfl]
  rw [sameR (by rw [e]), sameF (by rw [e])]
  exact ⟨.inr (.inr (.inr (.inl ⟨k, ix_none_lk hok'.nn hl'.n.2 hlk⟩))), rfl, filN (fun v hv _ => by rw [eN] at hv; exact ((mem_del hok.nn).1 hv).1) (fun v hv hf => by rw [eN]; exact (mem_del hok.nn).2 ⟨hv, hne v hf⟩), rfl⟩
 ·have e : oneS s o = { s with F := putK Fd.mac s.F o.f } := by rw [hS, if_neg (by omega), if_neg (by omega), if_neg (by omega), if_neg (by omega), if_pos k]
  have eF : (oneS s o).F = putK Fd.mac s.F o.f := by rw [e]
  have hne : ∀ v, fF o v = true -> v.mac ≠ o.f.mac := fun v hv => by unfold fF at hv; rw [decide_eq_false (by omega), Bool.false_or, decide_eq_true_eq] at hv; exact hv
  have hlk : lk Fd.mac (oneS s o).F o.f.mac = some o.f := by rw [eF, lk_put hok.fn, if_pos rfl]
  rw [sameR (by rw [e]), sameN (by rw [e])]
  exact ⟨.inr (.inr (.inr (.inr (.inl ⟨k, ix_of_lk nC hok'.fn hl'.f.2 hlk⟩)))), rfl, rfl, filF (fun v hv hf => by
   rw [eF] at hv
   rcases (mem_put hok.fn).1 hv with h | h
   ·exact absurd (by rw [h]) (hne v hf)
   ·exact h.1) (fun v hv hf => by rw [eF]; exact (mem_put hok.fn).2 (.inr ⟨hv, hne v hf⟩))⟩
 ·have e : oneS s o = { s with F := delK Fd.mac s.F o.f.mac } := by rw [hS, if_neg (by omega), if_neg (by omega), if_neg (by omega), if_neg (by omega), if_neg (by omega)]
  have eF : (oneS s o).F = delK Fd.mac s.F o.f.mac := by rw [e]
  have hne : ∀ v, fF o v = true -> v.mac ≠ o.f.mac := fun v hv => by unfold fF at hv; rw [decide_eq_false (by omega), Bool.false_or, decide_eq_true_eq] at hv; exact hv
  have hlk : lk Fd.mac (oneS s o).F o.f.mac = none := by rw [eF, lk_del hok.fn, if_pos rfl]
  rw [sameR (by rw [e]), sameN (by rw [e])]
  exact ⟨.inr (.inr (.inr (.inr (.inr ⟨k, ix_none_lk hok'.fn hl'.f.2 hlk⟩)))), rfl, rfl, filF (fun v hv _ => by rw [eF] at hv; exact ((mem_del hok.fn).1 hv).1) (fun v hv hf => by rw [eF]; exact (mem_del hok.fn).2 ⟨hv, hne v hf⟩)⟩
structure Db (N : Nat) (w : World) (b : Nat) (x y z : Value) (A : List Vt) (B : List Nb) (C : List Fd) : Prop where
 row : w.heap[b]? = some (.cells #[x, y, z] 51)
 lo : N <= b
 x : Own kR w N x A
 y : Own kN w N y B
 z : Own kF w N z C
theorem Db.kept {N : Nat} {w w' : World} {b : Nat} {x y z : Value} {A : List Vt} {B : List Nb} {C : List Fd} (h : Db N w b x y z A B C) (hk : ∀ c, c < w.heap.size -> N <= c -> w'.heap[c]? = w.heap[c]?) : Db N w' b x y z A B C :=
 ⟨(hk b (gsl h.row) h.lo).trans h.row, h.lo, own_kept h.x hk, own_kept h.y hk, own_kept h.z hk⟩
theorem Db.below {N : Nat} {w w' : World} {b : Nat} {x y z : Value} {A : List Vt} {B : List Nb} {C : List Fd} (h : Db N w b x y z A B C) (hb : Below w.heap.size w w') : Db N w' b x y z A B C := h.kept fun c hc _ => hb.block c hc
theorem Db.load {N : Nat} {w : World} {b : Nat} {x y z : Value} {A : List Vt} {B : List Nb} {C : List Fd} (h : Db N w b x y z A B C) : (Instr.loadAt 51 (.pointer (some ⟨b, 0, none⟩))).run Tryz.prog w = .ok (.agg #[x, y, z]) w := box_load h.row Tryz.underlying51 rfl (by kernel_rfl)
theorem Db.gd {N : Nat} {w : World} {b : Nat} {x y z : Value} {A : List Vt} {B : List Nb} {C : List Fd} (h : Db N w b x y z A B C) : Gd A B C (.agg #[x, y, z]) w := ⟨x, y, z, rfl, h.x.low (Nat.zero_le _), h.y.low (Nat.zero_le _), h.z.low (Nat.zero_le _)⟩
theorem Db.same {N : Nat} {w : World} {b : Nat} {x y z : Value} {A A' : List Vt} {B B' : List Nb} {C C' : List Fd} (h : Db N w b x y z A B C) (s : Ks) (h1 : Ls3 s A B C) (h2 : Ls3 s A' B' C') : Db N w b x y z A' B' C' := by
 obtain rfl : A = A' := srtK_eq h1.r h2.r
 obtain rfl : B = B' := srtK_eq h1.n h2.n
 obtain rfl : C = C' := srtK_eq h1.f h2.f
 exact h
theorem K1.oneB {w0 : World} {N : Nat} {w w' : World} {k : Nat} {s : Ks} {o : Opv} (h : K1 w0 N w k s) (hb : Below w.heap.size w w') (hr : w'.heap[w.heap.size]? = some (.cells o.cells 46)) (ho : o.Ok) :
  Calls Tryz.prog 7 #[.pointer (some ⟨k, 0, none⟩), .slice (some ⟨w.heap.size, 0, none⟩) 1 1] w' fun e w'' => e = .returned (.tuple #[.int .i64 ((if oneE s o = 0 then 1 else 0 : Nat) : Int), .int .i64 (oneE s o)]) /\ K1 w0 N w'' k (oneS s o) /\ (∀ c, c < w.heap.size -> N <= c -> w''.heap[c]? = w.heap[c]?) := by
 obtain ⟨d1, d2, d3⟩ := do_one s o
 refine ((h.below hb).do 1 (sees_one hr) (fun c hc => .inr (by rw [hc]; exact h.hi)) (fun x hx => by rw [List.mem_singleton] at hx; rw [hx]; exact ho) (by decide)).mono ?_
 rintro e w'' ⟨he, hk, hx⟩
 rw [d1, d2] at he
 rw [d3] at hk
 exact ⟨he, hk, fun c hl hn => (hx c (Nat.lt_of_lt_of_le hl hb.size) (.inr hn)).trans (hb.block c hl)⟩
structure Fo (w0 : World) (N : Nat) (w : World) (k : Nat) (s : Ks) (bo bc : Nat) (o : Opv) (cr cn cf : Nat) : Prop where
 k : K1 w0 N w k s
 ro : w.heap[bo]? = some (.cells o.cells 46)
 rc : w.heap[bc]? = some (.cells #[.int .i64 (cr : Int), .int .i64 (cn : Int), .int .i64 (cf : Int)] 23)
 lo : N <= bo /\ N <= bc
theorem Fo.below {w0 : World} {N : Nat} {w w' : World} {k : Nat} {s : Ks} {bo bc : Nat} {o : Opv} {cr cn cf : Nat} (h : Fo w0 N w k s bo bc o cr cn cf) (hb : Below w.heap.size w w') : Fo w0 N w' k s bo bc o cr cn cf :=
 ⟨h.k.below hb, below_keeps hb h.ro (gsl h.ro), below_keeps hb h.rc (gsl h.rc), h.lo⟩
theorem Fo.op {w0 : World} {N : Nat} {w : World} {k : Nat} {s : Ks} {bo bc : Nat} {o : Opv} {cr cn cf : Nat} (h : Fo w0 N w k s bo bc o cr cn cf) : (Instr.loadAt 46 (.pointer (some ⟨bo, 0, none⟩))).run Tryz.prog w = .ok (.agg o.cells) w := box_load h.ro Tryz.underlying46 rfl (by kernel_rfl)
theorem Fo.cap {w0 : World} {N : Nat} {w : World} {k : Nat} {s : Ks} {bo bc : Nat} {o : Opv} {cr cn cf : Nat} (h : Fo w0 N w k s bo bc o cr cn cf) : (Instr.loadAt 23 (.pointer (some ⟨bc, 0, none⟩))).run Tryz.prog w = .ok (.agg #[.int .i64 (cr : Int), .int .i64 (cn : Int), .int .i64 (cf : Int)]) w := box_load h.rc Tryz.underlying23 rfl (by kernel_rfl)
theorem dmp_db {w w' : World} {s : Ks} {v : Value} (h : Dmp w w' s v) : ∃ x y z A B C, v = .agg #[x, y, z] /\ Ls3 s A B C /\ Own kR w' w.heap.size x A /\ Own kN w' w.heap.size y B /\ Own kF w' w.heap.size z C /\ (x.oneCell' = true /\ y.oneCell' = true /\ z.oneCell' = true) /\ Below w.heap.size w w' := by
 obtain ⟨x, y, z, rfl, ⟨A1, o1, s1⟩, ⟨A2, o2, s2⟩, ⟨A3, o3, s3⟩, hb⟩ := h
 refine ⟨x, y, z, A1, A2, A3, rfl, ⟨s1, s2, s3⟩, own_R.2 o1, own_N.2 o2, own_F.2 o3, ?_, hb⟩
 obtain ⟨_, _, _, rfl, -⟩ := (own_R.2 o1).shape
 obtain ⟨_, _, _, rfl, -⟩ := (own_N.2 o2).shape
 obtain ⟨_, _, _, rfl, -⟩ := (own_F.2 o3).shape
 exact ⟨rfl, rfl, rfl⟩
end Go.Proofs.YtpdnnikkaojnkaaGreat.Rt
