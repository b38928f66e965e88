import Derived.Test.YtpdnnikkaojnkaaGreatYKP
namespace Go.Proofs.YtpdnnikkaojnkaaGreat.Rt
open Go.Proofs.YtpdnnikkaojnkaaGreat Go.ChangeShapes Go.WideShapes Go.ChangeAt Go.RowKit Go.Maps Tri N
def nbZ : Nb := ⟨0, ⟨0, 0, 0, 0, 0, 0⟩⟩
def fdZ : Fd := ⟨⟨0, 0, 0, 0, 0, 0⟩, 0⟩
def vtZ : Vt := ⟨0, 0, 0, false⟩
def opR (v : Vt) : Opv := ⟨1, v, nbZ, fdZ⟩
def opN (v : Nb) : Opv := ⟨3, vtZ, v, fdZ⟩
def opF (v : Fd) : Opv := ⟨5, vtZ, nbZ, v⟩
def opD (o : Opv) : Opv := { o with kind := o.kind + 1 }
def putsL (A : List Vt) (B : List Nb) (C : List Fd) : List Opv := C.reverse.map opF ++ (A.reverse.map opR ++ B.reverse.map opN)
theorem mcZ_ok : (⟨0, 0, 0, 0, 0, 0⟩ : Mc).Ok := fun x hx => by
  simp [Mc.L] at hx
  omega
theorem z32 : (0 : Nat) < 4294967296 := by decide
theorem i64_1 : (-9223372036854775808 : Int) ≤ 1 ∧ (1 : Int) ≤ 9223372036854775807 := by decide
theorem i64_3 : (-9223372036854775808 : Int) ≤ 3 ∧ (3 : Int) ≤ 9223372036854775807 := by decide
theorem i64_5 : (-9223372036854775808 : Int) ≤ 5 ∧ (5 : Int) ≤ 9223372036854775807 := by decide
theorem i64_0 : (-9223372036854775808 : Int) ≤ 0 ∧ (0 : Int) ≤ 9223372036854775807 := by decide
theorem opR_ok {v : Vt} (h : v.Ok) : (opR v).Ok := by
  obtain ⟨h1, h2, h3⟩ := h
  unfold valB at h1
  simp only [decide_eq_true_eq] at h1
  exact ⟨i64_1, h2, ⟨by show _ ≤ v.n; omega, by show v.n ≤ _; omega⟩, h3, z32, mcZ_ok, mcZ_ok, z32⟩
theorem opN_ok {v : Nb} (h : v.ip < 4294967296 ∧ v.mac.Ok) : (opN v).Ok := ⟨i64_3, z32, i64_0, z32, h.1, h.2, mcZ_ok, z32⟩
theorem opF_ok {v : Fd} (h : v.mac.Ok ∧ v.dest < 4294967296) : (opF v).Ok := ⟨i64_5, z32, i64_0, z32, z32, mcZ_ok, h.1, h.2⟩
theorem do_app (s : Ks) (L M : List Opv) (h : doE s L = 0) : doN s (L ++ M) = L.length + doN (doS s L) M ∧ doE s (L ++ M) = doE (doS s L) M ∧ doS s (L ++ M) = doS (doS s L) M := by
  induction L generalizing s with
  | nil => simp [doS]
  | cons x l ih =>
    by_cases h0 : oneE s x = 0
    · have h1 : doE (oneS s x) l = 0 := by simpa [doE, h0] using h
      obtain ⟨i1, i2, i3⟩ := ih (oneS s x) h1
      refine ⟨?_, ?_, ?_⟩
      · simp only [List.cons_append, doN, h0, if_true, i1, List.length_cons, doS]; omega
      · simp only [List.cons_append, doE, h0, if_true, i2, doS]
      · simp only [List.cons_append, h0, if_true, i3, doS]
    · simp [doE, h0] at h
def LocOk (s : Ks) : Prop := ∀ v ∈ s.R, (v.loc && v.via != 0) = false
theorem LocOk.one {s : Ks} (hs : s.Ok) (h : LocOk s) (o : Opv) : LocOk (oneS s o) := by
  unfold oneS
  by_cases h0 : oneE s o = 0
  · rw [if_neg (by simpa using h0)]
    by_cases k1 : o.kind = 1
    · rw [if_pos k1]
      intro v hv
      rcases (mem_put hs.rn).1 hv with rfl | ⟨hv, _⟩
      · unfold oneE at h0
        rw [if_pos k1] at h0
        cases hb : (o.r.loc && o.r.via != 0) with
        | false => rfl
        | true => rw [hb] at h0; simp at h0
      · exact h v hv
    · rw [if_neg k1]
      by_cases k2 : o.kind = 2
      · rw [if_pos k2]
        intro v hv
        exact h v ((mem_del hs.rn).1 hv).1
      · rw [if_neg k2]
        split
        · exact h
        · split
          · exact h
          · split
            · exact h
            · exact h
  · rw [if_pos h0]; exact h
theorem put_new {α κ : Type} [DecidableEq κ] {key : α → κ} {L : List α} {e : α} (h : ∀ x ∈ L, key x ≠ key e) : putK key L e = L ++ [e] ∧ lk key L (key e) = none := by
  refine ⟨?_, lk_isNone h⟩
  unfold putK
  rw [ix_of_none h]
theorem nod_app {α κ : Type} {key : α → κ} {L : List α} {e : α} {M : List α} (h : Nod key (L ++ e :: M)) : ∀ x ∈ L, key x ≠ key e := fun x hx he => by
  unfold Nod at h
  rw [List.map_append, List.nodup_append] at h
  exact h.2.2 _ (List.mem_map_of_mem hx) _ (List.mem_map_of_mem (List.mem_cons_self)) he
theorem puts_R (M : List Vt) : ∀ (s : Ks), Nod Tri.Vt.key (s.R ++ M) → (∀ v ∈ M, v.Ok ∧ (v.loc && v.via != 0) = false) → s.R.length + M.length ≤ s.cr → doN s (M.map opR) = M.length ∧ doE s (M.map opR) = 0 ∧ doS s (M.map opR) = { s with R := s.R ++ M } := by
  induction M with
  | nil => intro s _ _ _; simp [doN, doE, doS]
  | cons e M ih =>
    intro s hn hk hl
    obtain ⟨p1, p2⟩ := put_new (nod_app hn)
    obtain ⟨⟨k1, _, _⟩, k2⟩ := hk e List.mem_cons_self
    have hE : oneE s (opR e) = 0 := by
      have hlt : ¬ s.cr ≤ s.R.length := by simp only [List.length_cons] at hl; omega
      unfold oneE opR
      simp only [if_true, k1, k2, p2, hlt]
      simp
    have hS : oneS s (opR e) = { s with R := s.R ++ [e] } := by
      unfold oneS
      rw [hE]
      simp [opR, p1]
    obtain ⟨i1, i2, i3⟩ := ih { s with R := s.R ++ [e] } (by simpa using hn) (fun v hv => hk v (List.mem_cons_of_mem _ hv)) (by simp only [List.length_append, List.length_cons, List.length_nil] at hl ⊢; omega)
    refine ⟨?_, ?_, ?_⟩
    · simp only [List.map_cons, doN, hE, hS, if_true, i1, List.length_cons]
    · simp only [List.map_cons, doE, hE, hS, if_true, i2]
    · simp only [List.map_cons, doS, hE, hS, if_true, i3, List.append_assoc, List.cons_append, List.nil_append]
theorem puts_N (M : List Nb) : ∀ (s : Ks), Nod Nb.ip (s.N ++ M) → s.N.length + M.length ≤ s.cn → doN s (M.map opN) = M.length ∧ doE s (M.map opN) = 0 ∧ doS s (M.map opN) = { s with N := s.N ++ M } := by
  induction M with
  | nil => intro s _ _; simp [doN, doE, doS]
  | cons e M ih =>
    intro s hn hl
    obtain ⟨p1, p2⟩ := put_new (nod_app hn)
    have hE : oneE s (opN e) = 0 := by
      have hlt : ¬ s.cn ≤ s.N.length := by simp only [List.length_cons] at hl; omega
      unfold oneE opN
      simp [p2, hlt]
    have hS : oneS s (opN e) = { s with N := s.N ++ [e] } := by
      unfold oneS
      rw [hE]
      simp [opN, p1]
    obtain ⟨i1, i2, i3⟩ := ih { s with N := s.N ++ [e] } (by simpa using hn) (by simp only [List.length_append, List.length_cons, List.length_nil] at hl ⊢; omega)
    refine ⟨?_, ?_, ?_⟩
    · simp only [List.map_cons, doN, hE, hS, if_true, i1, List.length_cons]
    · simp only [List.map_cons, doE, hE, hS, if_true, i2]
    · simp only [List.map_cons, doS, hE, hS, if_true, i3, List.append_assoc, List.cons_append, List.nil_append]
theorem puts_F (M : List Fd) : ∀ (s : Ks), Nod Fd.mac (s.F ++ M) → s.F.length + M.length ≤ s.cf → doN s (M.map opF) = M.length ∧ doE s (M.map opF) = 0 ∧ doS s (M.map opF) = { s with F := s.F ++ M } := by
  induction M with
  | nil => intro s _ _; simp [doN, doE, doS]
  | cons e M ih =>
    intro s hn hl
    obtain ⟨p1, p2⟩ := put_new (nod_app hn)
    have hE : oneE s (opF e) = 0 := by
      have hlt : ¬ s.cf ≤ s.F.length := by simp only [List.length_cons] at hl; omega
      unfold oneE opF
      simp [p2, hlt]
    have hS : oneS s (opF e) = { s with F := s.F ++ [e] } := by
      unfold oneS
      rw [hE]
      simp [opF, p1]
    obtain ⟨i1, i2, i3⟩ := ih { s with F := s.F ++ [e] } (by simpa using hn) (by simp only [List.length_append, List.length_cons, List.length_nil] at hl ⊢; omega)
    refine ⟨?_, ?_, ?_⟩
    · simp only [List.map_cons, doN, hE, hS, if_true, i1, List.length_cons]
    · simp only [List.map_cons, doE, hE, hS, if_true, i2]
    · simp only [List.map_cons, doS, hE, hS, if_true, i3, List.append_assoc, List.cons_append, List.nil_append]
theorem nod_rev {α κ : Type} {key : α → κ} {L : List α} (h : Nod key L) : Nod key ([] ++ L.reverse) := by
  unfold Nod at h ⊢
  rw [List.nil_append, List.map_reverse, List.nodup_iff_pairwise_ne, List.pairwise_reverse]
  exact (List.nodup_iff_pairwise_ne.1 h).imp fun h e => h e.symm
theorem puts_do {A : List Vt} {B : List Nb} {C : List Fd} {cr cn cf : Nat} (hok : (⟨A, B, C, cr, cn, cf⟩ : Ks).Ok) (hlo : LocOk ⟨A, B, C, cr, cn, cf⟩) :
    doN ⟨[], [], [], cr, cn, cf⟩ (putsL A B C) = (putsL A B C).length ∧ doE ⟨[], [], [], cr, cn, cf⟩ (putsL A B C) = 0 ∧ doS ⟨[], [], [], cr, cn, cf⟩ (putsL A B C) = ⟨A.reverse, B.reverse, C.reverse, cr, cn, cf⟩ := by
  have nA : Nod Tri.Vt.key ([] ++ A.reverse) := nod_rev hok.rn
  have nB : Nod Nb.ip ([] ++ B.reverse) := nod_rev hok.nn
  have nC : Nod Fd.mac ([] ++ C.reverse) := nod_rev hok.fn
  obtain ⟨f1, f2, f3⟩ := puts_F C.reverse ⟨[], [], [], cr, cn, cf⟩ nC (by have := hok.fl.1; simpa using this)
  obtain ⟨r1, r2, r3⟩ := puts_R A.reverse ⟨[], [], [] ++ C.reverse, cr, cn, cf⟩ nA (fun v hv => ⟨hok.rk v (by simpa using hv), hlo v (by simpa using hv)⟩) (by have := hok.rl.1; simpa using this)
  obtain ⟨n1, n2, n3⟩ := puts_N B.reverse ⟨[] ++ A.reverse, [], [] ++ C.reverse, cr, cn, cf⟩ nB (by have := hok.nl.1; simpa using this)
  obtain ⟨x1, x2, x3⟩ := do_app ⟨[], [], [], cr, cn, cf⟩ (C.reverse.map opF) (A.reverse.map opR ++ B.reverse.map opN) f2
  rw [f3] at x1 x2 x3
  obtain ⟨y1, y2, y3⟩ := do_app ⟨[], [], [] ++ C.reverse, cr, cn, cf⟩ (A.reverse.map opR) (B.reverse.map opN) r2
  rw [r3] at y1 y2 y3
  refine ⟨?_, ?_, ?_⟩
  · show doN _ (C.reverse.map opF ++ (A.reverse.map opR ++ B.reverse.map opN)) = _
    rw [x1, y1, n1]
    simp [putsL]
  · exact x2.trans (y2.trans n2)
  · refine x3.trans (y3.trans (n3.trans ?_))
    simp
theorem del_head {α κ : Type} [DecidableEq κ] {key : α → κ} (e : α) (L : List α) : delK key (e :: L) (key e) = L := by
  unfold delK
  rw [ix_of (L := e :: L) (i := 0) rfl rfl (fun j e' hj => by omega)]
  rfl
theorem dels_R (M : List Vt) : ∀ (s : Ks), s.R = M → (∀ v ∈ M, v.Ok) → doN s ((M.map opR).map opD) = M.length ∧ doE s ((M.map opR).map opD) = 0 ∧ doS s ((M.map opR).map opD) = { s with R := [] } := by
  induction M with
  | nil =>
    intro s h _
    refine ⟨rfl, rfl, ?_⟩
    show s = _
    rw [← h]
  | cons e M ih =>
    intro s h hk
    have k1 := (hk e List.mem_cons_self).1
    have hE : oneE s (opD (opR e)) = 0 := by simp [oneE, opD, opR, k1]
    have hS : oneS s (opD (opR e)) = { s with R := M } := by
      unfold oneS
      rw [hE]
      simp [opD, opR, h, del_head]
    obtain ⟨i1, i2, i3⟩ := ih { s with R := M } rfl fun v hv => hk v (List.mem_cons_of_mem _ hv)
    refine ⟨?_, ?_, ?_⟩
    · simp only [List.map_cons, doN, hE, hS, if_true, i1, List.length_cons]
    · simp only [List.map_cons, doE, hE, hS, if_true, i2]
    · simp only [List.map_cons, doS, hE, hS, if_true, i3]
theorem dels_N (M : List Nb) : ∀ (s : Ks), s.N = M → doN s ((M.map opN).map opD) = M.length ∧ doE s ((M.map opN).map opD) = 0 ∧ doS s ((M.map opN).map opD) = { s with N := [] } := by
  induction M with
  | nil =>
    intro s h
    refine ⟨rfl, rfl, ?_⟩
    show s = _
    rw [← h]
  | cons e M ih =>
    intro s h
    have hE : oneE s (opD (opN e)) = 0 := by simp [oneE, opD, opN]
    have hS : oneS s (opD (opN e)) = { s with N := M } := by
      unfold oneS
      rw [hE]
      simp [opD, opN, h, del_head]
    obtain ⟨i1, i2, i3⟩ := ih { s with N := M } rfl
    refine ⟨?_, ?_, ?_⟩
    · simp only [List.map_cons, doN, hE, hS, if_true, i1, List.length_cons]
    · simp only [List.map_cons, doE, hE, hS, if_true, i2]
    · simp only [List.map_cons, doS, hE, hS, if_true, i3]
theorem dels_F (M : List Fd) : ∀ (s : Ks), s.F = M → doN s ((M.map opF).map opD) = M.length ∧ doE s ((M.map opF).map opD) = 0 ∧ doS s ((M.map opF).map opD) = { s with F := [] } := by
  induction M with
  | nil =>
    intro s h
    refine ⟨rfl, rfl, ?_⟩
    show s = _
    rw [← h]
  | cons e M ih =>
    intro s h
    have hE : oneE s (opD (opF e)) = 0 := by simp [oneE, opD, opF]
    have hS : oneS s (opD (opF e)) = { s with F := M } := by
      unfold oneS
      rw [hE]
      simp [opD, opF, h, del_head]
    obtain ⟨i1, i2, i3⟩ := ih { s with F := M } rfl
    refine ⟨?_, ?_, ?_⟩
    · simp only [List.map_cons, doN, hE, hS, if_true, i1, List.length_cons]
    · simp only [List.map_cons, doE, hE, hS, if_true, i2]
    · simp only [List.map_cons, doS, hE, hS, if_true, i3]
theorem dels_do {A : List Vt} {B : List Nb} {C : List Fd} {cr cn cf : Nat} (hk : ∀ v ∈ A, v.Ok) :
    doN ⟨A.reverse, B.reverse, C.reverse, cr, cn, cf⟩ ((putsL A B C).map opD) = (putsL A B C).length ∧ doE ⟨A.reverse, B.reverse, C.reverse, cr, cn, cf⟩ ((putsL A B C).map opD) = 0 ∧ doS ⟨A.reverse, B.reverse, C.reverse, cr, cn, cf⟩ ((putsL A B C).map opD) = ⟨[], [], [], cr, cn, cf⟩ := by
  have e : (putsL A B C).map opD = (C.reverse.map opF).map opD ++ ((A.reverse.map opR).map opD ++ (B.reverse.map opN).map opD) := by unfold putsL; rw [List.map_append, List.map_append]
  obtain ⟨f1, f2, f3⟩ := dels_F C.reverse ⟨A.reverse, B.reverse, C.reverse, cr, cn, cf⟩ rfl
  obtain ⟨r1, r2, r3⟩ := dels_R A.reverse ⟨A.reverse, B.reverse, [], cr, cn, cf⟩ rfl fun v hv => hk v (by simpa using hv)
  obtain ⟨n1, n2, n3⟩ := dels_N B.reverse ⟨[], B.reverse, [], cr, cn, cf⟩ rfl
  obtain ⟨x1, x2, x3⟩ := do_app ⟨A.reverse, B.reverse, C.reverse, cr, cn, cf⟩ ((C.reverse.map opF).map opD) ((A.reverse.map opR).map opD ++ (B.reverse.map opN).map opD) f2
  rw [f3] at x1 x2 x3
  obtain ⟨y1, y2, y3⟩ := do_app ⟨A.reverse, B.reverse, [], cr, cn, cf⟩ ((A.reverse.map opR).map opD) ((B.reverse.map opN).map opD) r2
  rw [r3] at y1 y2 y3
  rw [e]
  refine ⟨?_, x2.trans (y2.trans n2), x3.trans (y3.trans n3)⟩
  rw [x1, y1, n1]
  simp [putsL]
theorem opD_ok {A : List Vt} {B : List Nb} {C : List Fd} (h : ∀ o ∈ putsL A B C, o.Ok) : ∀ o ∈ (putsL A B C).map opD, o.Ok := fun o ho => by
  obtain ⟨x, hx, rfl⟩ := List.mem_map.1 ho
  have hk : x.kind = 1 ∨ x.kind = 3 ∨ x.kind = 5 := by
    unfold putsL at hx
    simp only [List.mem_append, List.mem_map] at hx
    rcases hx with ⟨v, _, rfl⟩ | ⟨v, _, rfl⟩ | ⟨v, _, rfl⟩ <;> simp [opF, opR, opN]
  have k := h x hx
  exact ⟨by show -9223372036854775808 ≤ x.kind + 1 ∧ x.kind + 1 ≤ 9223372036854775807; omega, k.rx, k.rn, k.rv, k.ni, k.nm, k.fm, k.fd⟩
theorem putsL_ok {s : Ks} (hok : s.Ok) : ∀ o ∈ putsL s.R s.N s.F, o.Ok := fun o ho => by
  unfold putsL at ho
  simp only [List.mem_append, List.mem_map, List.mem_reverse] at ho
  rcases ho with ⟨v, hv, rfl⟩ | ⟨v, hv, rfl⟩ | ⟨v, hv, rfl⟩
  · exact opF_ok (hok.fk v hv)
  · exact opR_ok (hok.rk v hv)
  · exact opN_ok (hok.nk v hv)
theorem putsL_len {s : Ks} (hok : s.Ok) : (putsL s.R s.N s.F).length ≤ 768 := by
  have h1 := hok.rl
  have h2 := hok.nl
  have h3 := hok.fl
  simp only [putsL, List.length_append, List.length_map, List.length_reverse]
  omega
end Go.Proofs.YtpdnnikkaojnkaaGreat.Rt
