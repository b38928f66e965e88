import Derived.Test.YtpdnnikkaojnkaaGreatYLD
import Derived.Deep.RegionLaw
import Derived.Deep.AppendLies
import Derived.StillTail
import Derived.StillTailTactics
namespace Go.Proofs.YtpdnnikkaojnkaaGreat.Rt
open Go.Proofs.YtpdnnikkaojnkaaGreat Go.ChangeShapes Go.WideShapes Go.ChangeAt Go.RowKit Go.Maps Tri N
set_option maxHeartbeats 4000000
set_option maxRecDepth 100000
theorem delR_none {s : Ks} {o : Opv} (hk : o.kind = 2) (hb : valB o.r.x o.r.n = true) (hx : ix Tri.Vt.key s.R o.r.key = none) : oneE s o = 0 ∧ oneS s o = s := by
  have e : oneE s o = 0 := by unfold oneE; simp [hk, hb]
  exact ⟨e, by unfold oneS; rw [if_neg (by simp [e])]; simp [hk, delK, hx]⟩
theorem delR_some {s : Ks} {o : Opv} {j : Nat} (hk : o.kind = 2) (hb : valB o.r.x o.r.n = true) (hx : ix Tri.Vt.key s.R o.r.key = some j) : oneE s o = 0 ∧ oneS s o = { s with R := s.R.eraseIdx j } := by
  have e : oneE s o = 0 := by unfold oneE; simp [hk, hb]
  exact ⟨e, by unfold oneS; rw [if_neg (by simp [e])]; simp [hk, delK, hx]⟩
theorem putR_some {s : Ks} {o : Opv} {j : Nat} (hk : o.kind = 1) (hb : valB o.r.x o.r.n = true) (hl : (o.r.loc && o.r.via != 0) = false) (hx : ix Tri.Vt.key s.R o.r.key = some j) : oneE s o = 0 ∧ oneS s o = { s with R := s.R.set j o.r } := by
  have h1 : (lk Tri.Vt.key s.R o.r.key).isSome = true := by rw [← ix_lk, hx]; rfl
  have e : oneE s o = 0 := by unfold oneE; simp [hk, h1, hb, hl]
  exact ⟨e, by unfold oneS; rw [if_neg (by simp [e])]; simp only [hk, if_true, putK]; rw [hx]⟩
theorem putR_full {s : Ks} {o : Opv} (hk : o.kind = 1) (hb : valB o.r.x o.r.n = true) (hl : (o.r.loc && o.r.via != 0) = false) (hx : ix Tri.Vt.key s.R o.r.key = none) (hf : s.cr ≤ s.R.length) : oneE s o = 4 ∧ oneS s o = s := by
  have h1 : (lk Tri.Vt.key s.R o.r.key).isSome = false := by rw [← ix_lk, hx]; rfl
  have e : oneE s o = 4 := by unfold oneE; simp [hk, h1, hf, hb, hl]
  exact ⟨e, by unfold oneS; rw [if_pos (by simp [e])]⟩
theorem putR_new {s : Ks} {o : Opv} (hk : o.kind = 1) (hb : valB o.r.x o.r.n = true) (hl : (o.r.loc && o.r.via != 0) = false) (hx : ix Tri.Vt.key s.R o.r.key = none) (hf : ¬ s.cr ≤ s.R.length) : oneE s o = 0 ∧ oneS s o = { s with R := s.R ++ [o.r] } := by
  have h1 : (lk Tri.Vt.key s.R o.r.key).isSome = false := by rw [← ix_lk, hx]; rfl
  have e : oneE s o = 0 := by unfold oneE; simp [hk, h1, hf, hb, hl]
  exact ⟨e, by unfold oneS; rw [if_neg (by simp [e])]; simp only [hk, if_true, putK]; rw [hx]⟩
theorem delN_none {s : Ks} {o : Opv} (hk : o.kind = 4) (hx : ix Nb.ip s.N o.n.ip = none) : oneE s o = 0 ∧ oneS s o = s := by
  have e : oneE s o = 0 := by unfold oneE; simp [hk]
  exact ⟨e, by unfold oneS; rw [if_neg (by simp [e])]; simp [hk, delK, hx]⟩
theorem delN_some {s : Ks} {o : Opv} {j : Nat} (hk : o.kind = 4) (hx : ix Nb.ip s.N o.n.ip = some j) : oneE s o = 0 ∧ oneS s o = { s with N := s.N.eraseIdx j } := by
  have e : oneE s o = 0 := by unfold oneE; simp [hk]
  exact ⟨e, by unfold oneS; rw [if_neg (by simp [e])]; simp [hk, delK, hx]⟩
theorem putN_some {s : Ks} {o : Opv} {j : Nat} (hk : o.kind = 3) (hx : ix Nb.ip s.N o.n.ip = some j) : oneE s o = 0 ∧ oneS s o = { s with N := s.N.set j o.n } := by
  have h1 : (lk Nb.ip s.N o.n.ip).isSome = true := by rw [← ix_lk, hx]; rfl
  have e : oneE s o = 0 := by unfold oneE; simp [hk, h1]
  exact ⟨e, by unfold oneS; rw [if_neg (by simp [e])]; simp only [hk, if_true, Int.reduceEq, if_false, putK]; rw [hx]⟩
theorem putN_full {s : Ks} {o : Opv} (hk : o.kind = 3) (hx : ix Nb.ip s.N o.n.ip = none) (hf : s.cn ≤ s.N.length) : oneE s o = 4 ∧ oneS s o = s := by
  have h1 : (lk Nb.ip s.N o.n.ip).isSome = false := by rw [← ix_lk, hx]; rfl
  have e : oneE s o = 4 := by unfold oneE; simp [hk, h1, hf]
  exact ⟨e, by unfold oneS; rw [if_pos (by simp [e])]⟩
theorem putN_new {s : Ks} {o : Opv} (hk : o.kind = 3) (hx : ix Nb.ip s.N o.n.ip = none) (hf : ¬ s.cn ≤ s.N.length) : oneE s o = 0 ∧ oneS s o = { s with N := s.N ++ [o.n] } := by
  have h1 : (lk Nb.ip s.N o.n.ip).isSome = false := by rw [← ix_lk, hx]; rfl
  have e : oneE s o = 0 := by unfold oneE; simp [hk, h1, hf]
  exact ⟨e, by unfold oneS; rw [if_neg (by simp [e])]; simp only [hk, if_true, Int.reduceEq, if_false, putK]; rw [hx]⟩
theorem delF_none {s : Ks} {o : Opv} (hk : o.kind = 6) (hx : ix Fd.mac s.F o.f.mac = none) : oneE s o = 0 ∧ oneS s o = s := by
  have e : oneE s o = 0 := by unfold oneE; simp [hk]
  exact ⟨e, by unfold oneS; rw [if_neg (by simp [e])]; simp [hk, delK, hx]⟩
theorem delF_some {s : Ks} {o : Opv} {j : Nat} (hk : o.kind = 6) (hx : ix Fd.mac s.F o.f.mac = some j) : oneE s o = 0 ∧ oneS s o = { s with F := s.F.eraseIdx j } := by
  have e : oneE s o = 0 := by unfold oneE; simp [hk]
  exact ⟨e, by unfold oneS; rw [if_neg (by simp [e])]; simp [hk, delK, hx]⟩
theorem putF_some {s : Ks} {o : Opv} {j : Nat} (hk : o.kind = 5) (hx : ix Fd.mac s.F o.f.mac = some j) : oneE s o = 0 ∧ oneS s o = { s with F := s.F.set j o.f } := by
  have h1 : (lk Fd.mac s.F o.f.mac).isSome = true := by rw [← ix_lk, hx]; rfl
  have e : oneE s o = 0 := by unfold oneE; simp [hk, h1]
  exact ⟨e, by unfold oneS; rw [if_neg (by simp [e])]; simp only [hk, if_true, Int.reduceEq, if_false, putK]; rw [hx]⟩
theorem putF_full {s : Ks} {o : Opv} (hk : o.kind = 5) (hx : ix Fd.mac s.F o.f.mac = none) (hf : s.cf ≤ s.F.length) : oneE s o = 4 ∧ oneS s o = s := by
  have h1 : (lk Fd.mac s.F o.f.mac).isSome = false := by rw [← ix_lk, hx]; rfl
  have e : oneE s o = 4 := by unfold oneE; simp [hk, h1, hf]
  exact ⟨e, by unfold oneS; rw [if_pos (by simp [e])]⟩
theorem putF_new {s : Ks} {o : Opv} (hk : o.kind = 5) (hx : ix Fd.mac s.F o.f.mac = none) (hf : ¬ s.cf ≤ s.F.length) : oneE s o = 0 ∧ oneS s o = { s with F := s.F ++ [o.f] } := by
  have h1 : (lk Fd.mac s.F o.f.mac).isSome = false := by rw [← ix_lk, hx]; rfl
  have e : oneE s o = 0 := by unfold oneE; simp [hk, h1, hf]
  exact ⟨e, by unfold oneS; rw [if_neg (by simp [e])]; simp only [hk, if_true, Int.reduceEq, if_false, putK]; rw [hx]⟩
theorem badR {s : Ks} {o : Opv} (hk : o.kind = 1 ∨ o.kind = 2) (hb : valB o.r.x o.r.n = false) : oneE s o = 93 ∧ oneS s o = s := by
  have e : oneE s o = 93 := by unfold oneE; rcases hk with hk | hk <;> simp [hk, hb]
  exact ⟨e, by unfold oneS; rw [if_pos (by simp [e])]⟩
theorem badL {s : Ks} {o : Opv} (hk : o.kind = 1) (hl : (o.r.loc && o.r.via != 0) = true) : oneE s o = 93 ∧ oneS s o = s := by
  have e : oneE s o = 93 := by unfold oneE; simp only [hk, if_true, hl, Bool.or_true]
  exact ⟨e, by unfold oneS; rw [if_pos (by simp [e])]⟩
theorem step_append_run {P : Program} {ops : Array Oper} {o : Oper} {a : Act} {w : World} {K : Act → World → Prop} {Q : Exit → Act → World → Prop} {E : Prop}
    (hg : o.guard = none) (s x : Operand) (t t' : TypeId) (hop : o.op = Op.call { callee := Callee.builtin Builtin.append, args := #[s, x], argTypes := #[t, t'] }) (v u : Value) (hs : a.eval s = v) (hx : a.eval x = u) {v' : Value} {w' : World}
    (hr : (Builtin.append_ #[t, t'] o.type #[v, u]).run P w = .ok v' w') (hK : K (a.put o.dst v') w') :
    if Region.wanted o (yielded ops a.tmps) = true then Oper.wp P o a w K Q else E := by
  have hw : Region.wanted o (yielded ops a.tmps) = true := by simp [Region.wanted, hg]
  rw [if_pos hw]
  unfold Oper.wp
  simp [execOp, hop, resolve, invoke, builtin, hs, hx, hr, Result.andThen]
  exact hK
end Go.Proofs.YtpdnnikkaojnkaaGreat.Rt
