/-
  A net at rest; New, has, twin.
-/
import Derived.Test.YtaelfhjhinfikabDB
namespace Go.Proofs.Ytaelfhjhinfikab
open Go.ChangeShapes Go.WideShapes Go.ChangeAt Go.RowKit Me
set_option maxHeartbeats 1000000
set_option maxRecDepth 100000

/-- A struct that holds a list of packets. -/
structure HAt (ty : TypeId) (mk : Value → Array Value) (w : World) (pb : Nat) (v : Value) (E : List En) : Prop where
  row : w.heap[pb]? = some (.cells (mk v) ty (0, 0))
  fl : Fl w v E

def fpH (pb : Nat) (v : Value) (E : List En) (k : Nat) : Prop := k = pb ∨ fpF v E k

/-- What a call leaves. -/
structure HTurn (ty : TypeId) (mk : Value → Array Value) (w w' : World) (pb : Nat) (v : Value) (E : List En) (v' : Value) (E' : List En) : Prop where
  net : HAt ty mk w' pb v' E'
  new : ∀ k, fpF v' E' k → fpF v E k ∨ w.heap.size ≤ k
  keeps : Keeps (fpH pb v E) w w'

section
variable {ty : TypeId} {mk : Value → Array Value} {w w' w'' : World} {pb : Nat} {v v' v'' : Value} {E E' E'' : List En}
theorem HAt.lt (h : HAt ty mk w pb v E) {k : Nat} (hk : fpH pb v E k) : k < w.heap.size := by
  rcases hk with rfl | hk
  · exact (Array.getElem?_eq_some_iff.1 h.row).1
  · exact h.fl.lt hk
theorem HAt.keeps {S : Nat → Prop} (h : HAt ty mk w pb v E) (hk : Keeps S w w') (hn : ∀ k, fpH pb v E k → ¬ S k) : HAt ty mk w' pb v E :=
  ⟨hk.mem h.row (hn _ (.inl rfl)), h.fl.keeps hk fun k e => hn k (.inr e)⟩
theorem HAt.below (h : HAt ty mk w pb v E) (hb : Below w.heap.size w w') : HAt ty mk w' pb v E := h.keeps (S := fun _ => False) (Keeps.of hb) fun _ _ e => e
theorem HTurn.same (h : HAt ty mk w pb v E) (hb : Below w.heap.size w w') : HTurn ty mk w w' pb v E v E := ⟨h.below hb, fun _ h => .inl h, Keeps.of hb⟩
theorem HTurn.trans (h : HTurn ty mk w w' pb v E v' E') (h' : HTurn ty mk w' w'' pb v' E' v'' E'') : HTurn ty mk w w'' pb v E v'' E'' :=
  ⟨h'.net, fun k hk => by
    rcases h'.new k hk with hk | hk
    · exact h.new k hk
    · exact .inr (Nat.le_trans h.keeps.size hk), h.keeps.then h'.keeps fun k hk => by
    rcases hk with rfl | hk
    · exact .inl (.inl rfl)
    · exact (h.new k hk).imp .inr id⟩
theorem HTurn.from (h : HTurn ty mk w' w'' pb v E v' E') (h0 : HAt ty mk w pb v E) (hb : Below w.heap.size w w') : HTurn ty mk w w'' pb v E v' E' := (HTurn.same h0 hb).trans h
theorem HTurn.more (h : HTurn ty mk w w' pb v E v' E') (hb : Below w'.heap.size w' w'') : HTurn ty mk w w'' pb v E v' E' := h.trans (.same h.net hb)
/-- The list is stored. -/
theorem HAt.store {u : World} {S : Nat → Prop} (h : HAt ty mk w pb v E) (hty : ty ≠ 41 ∧ ty ≠ 5) (i : Nat) (hmk : (mk v).setIfInBounds i v' = mk v') (hk : Keeps S w u) (hS : ∀ k, S k → fpF v E k) (hf : Fl u v' E') (hn : ∀ k, fpF v' E' k → fpF v E k ∨ w.heap.size ≤ k) :
    HTurn ty mk w (u.setCell ⟨pb, i, none⟩ v') pb v E v' E' := by
  have hpb : ¬ fpF v E pb := fun e => by
    obtain ⟨cs, t, h1, h2⟩ := h.fl.kinds e
    rw [h.row] at h1
    simp at h1
    rcases h2 with h2 | h2
    · exact hty.1 (h1.2.trans h2)
    · exact hty.2 (h1.2.trans h2)
  have hr : u.heap[pb]? = some (.cells (mk v) ty (0, 0)) := hk.mem h.row fun e => hpb (hS _ e)
  have hks : Keeps (fun k => k = pb) u (u.setCell ⟨pb, i, none⟩ v') := Keeps.set (S := fun k => k = pb) (Keeps.refl _ _) ⟨pb, i, none⟩ rfl _
  have hpb' : ¬ fpF v' E' pb := fun e => by
    obtain ⟨cs, t, h1, h2⟩ := hf.kinds e
    rw [hr] at h1
    simp at h1
    rcases h2 with h2 | h2
    · exact hty.1 (h1.2.trans h2)
    · exact hty.2 (h1.2.trans h2)
  refine ⟨⟨?_, hf.keeps hks fun k h1 h2 => hpb' (h2 ▸ h1)⟩, hn, (hk.mono fun k _ e => .inr (hS k e)).trans (hks.mono fun k _ e => .inl e)⟩
  rw [set_cells hr, hmk]
/-- Bytes are written. -/
theorem HAt.turn {S : Nat → Prop} (h : HAt ty mk w pb v E) (hty : ty ≠ 41 ∧ ty ≠ 5) (hk : Keeps S w w') (hS : ∀ k, S k → fpF v E k) (hf : Fl w' v E') (hn : ∀ k, fpF v E' k → fpF v E k) : HTurn ty mk w w' pb v E v E' := by
  have hpb : ¬ fpF v E pb := fun e => by
    obtain ⟨cs, t, h1, h2⟩ := h.fl.kinds e
    rw [h.row] at h1
    simp at h1
    rcases h2 with h2 | h2
    · exact hty.1 (h1.2.trans h2)
    · exact hty.2 (h1.2.trans h2)
  exact ⟨⟨hk.mem h.row fun e => hpb (hS _ e), hf⟩, fun k hk => .inl (hn k hk), hk.mono fun k _ e => .inr (hS k e)⟩
end

def mkN (m : Nat) (v : Value) : Array Value := #[.int .i64 (m : Int), v]
def mkR (m : Nat) (v : Value) : Array Value := #[v, .int .i64 (m : Int)]

/-! ### what is said of the packets -/
def inR (i : Int) (n : Nat) : Bool := decide (0 ≤ i) && decide (i < (n : Int))
theorem inR_true {i : Int} {n : Nat} (h : inR i n = true) : ∃ j : Nat, i = (j : Int) ∧ j < n := by
  unfold inR at h
  simp at h
  exact ⟨i.toNat, by omega, by omega⟩
theorem inR_nat {i n : Nat} : inR (i : Int) n = decide (i < n) := by
  unfold inR
  simp
theorem inR_false {i : Int} {n : Nat} (h : inR i n = false) : i < 0 ∨ (n : Int) ≤ i := by
  unfold inR at h
  simp at h
  omega
/-- One more. -/
def joE (m : Nat) (S : List Pk) (p : Pk) : Nat := if 65535 < p.bs.length then 2 else if m ≤ S.length then 4 else 0
def joS (m : Nat) (S : List Pk) (p : Pk) : List Pk := if joE m S p = 0 then S ++ [p] else S
/-- How many join, why the next does not; what is in flight then. -/
def puN (m : Nat) : List Pk → List Pk → Nat
  | _, [] => 0
  | S, p :: L => if joE m S p = 0 then puN m (S ++ [p]) L + 1 else 0
def puE (m : Nat) : List Pk → List Pk → Nat
  | _, [] => 0
  | S, p :: L => if joE m S p = 0 then puE m (S ++ [p]) L else joE m S p
def puS (m : Nat) (S L : List Pk) : List Pk := S ++ L.take (puN m S L)
theorem puN_le (m : Nat) : ∀ (S L : List Pk), puN m S L ≤ L.length
  | _, [] => Nat.le_refl _
  | S, p :: L => by
    unfold puN
    split
    · have := puN_le m (S ++ [p]) L
      simp; omega
    · simp
theorem puN_step {m : Nat} {S L : List Pk} {p : Pk} (h : joE m S p = 0) : puN m S (p :: L) = puN m (S ++ [p]) L + 1 := by
  conv => lhs; unfold puN
  rw [if_pos h]
theorem puN_stop {m : Nat} {S L : List Pk} {p : Pk} (h : joE m S p ≠ 0) : puN m S (p :: L) = 0 := by
  unfold puN
  rw [if_neg h]
theorem puE_step {m : Nat} {S L : List Pk} {p : Pk} (h : joE m S p = 0) : puE m S (p :: L) = puE m (S ++ [p]) L := by
  conv => lhs; unfold puE
  rw [if_pos h]
theorem puE_stop {m : Nat} {S L : List Pk} {p : Pk} (h : joE m S p ≠ 0) : puE m S (p :: L) = joE m S p := by
  unfold puE
  rw [if_neg h]
theorem puS_step {m : Nat} {S L : List Pk} {p : Pk} (h : joE m S p = 0) : puS m S (p :: L) = puS m (S ++ [p]) L := by
  unfold puS
  rw [puN_step h]
  simp
theorem puS_stop {m : Nat} {S L : List Pk} {p : Pk} (h : joE m S p ≠ 0) : puS m S (p :: L) = S := by
  unfold puS
  rw [puN_stop h]
  simp
theorem drop_cons {α : Type} {L : List α} {j : Nat} {x : α} (h : L[j]? = some x) : L.drop j = x :: L.drop (j + 1) := by
  obtain ⟨h1, rfl⟩ := List.getElem?_eq_some_iff.1 h
  exact List.drop_eq_getElem_cons h1
def tkE (S : List Pk) (i : Int) : Nat := if inR i S.length then 0 else 3
def tkP (S : List Pk) (i : Int) : Pk := if inR i S.length then S.getD i.toNat ⟨0, []⟩ else ⟨0, []⟩
def tkS (S : List Pk) (i : Int) : List Pk := if inR i S.length then S.eraseIdx i.toNat else S
def coE (m : Nat) (S : List Pk) (i : Int) : Nat := if inR i S.length then (if m ≤ S.length then 4 else 0) else 3
def coS (m : Nat) (S : List Pk) (i : Int) : List Pk := if coE m S i = 0 then S ++ [S.getD i.toNat ⟨0, []⟩] else S
def spE (S : List Pk) (i a : Int) (x : Nat) : Nat := if inR i S.length then (if inR a (S.getD i.toNat ⟨0, []⟩).bs.length && decide (x ≠ 0) then 0 else 1) else 3
def spP (p : Pk) (a x : Nat) : Pk := ⟨p.ad, p.bs.set a (p.bs.getD a 0 ^^^ x)⟩
def spS (S : List Pk) (i a : Int) (x : Nat) : List Pk := if spE S i a x = 0 then S.set i.toNat (spP (S.getD i.toNat ⟨0, []⟩) a.toNat x) else S

def newB (l : Int) : Bool := decide (1 ≤ l) && decide (l ≤ 4096)

/-! ### New -/
theorem new_any (l : Int) (w : World) : Calls Try.prog 14 #[.int .i64 l] w fun e w' =>
    (newB l = false ∧ e = .returned (.tuple #[.pointer none, .int .i64 1]) ∧ w' = w) ∨
    (newB l = true ∧ ∃ m : Nat, l = (m : Int) ∧ e = .returned (.tuple #[.pointer (some ⟨w.heap.size, 0, none⟩), .int .i64 0]) ∧ HAt 60 (mkN m) w' w.heap.size (.slice none 0 0) [] ∧ Below w.heap.size w w') := by
  by_cases h1 : l < 1
  · have HE : Hid (newB l = false) := by unfold Hid newB; simp; omega
    have q1 : decide (l < 1) = true := by simpa using h1
    go_enter Try.func14, Try.ntmps14
    go_wp2_with fail
    go_ret2
    exact .inl ⟨HE.out, rfl, rfl⟩
  · by_cases h2 : 4096 < l
    · have HE : Hid (newB l = false) := by unfold Hid newB; simp; omega
      have q1 : decide (l < 1) = false := by simpa using h1
      have q2 : decide (4096 < l) = true := by simpa using h2
      go_enter Try.func14, Try.ntmps14
      go_wp2_with fail
      go_ret2
      exact .inl ⟨HE.out, rfl, rfl⟩
    · have HE : Hid (newB l = true) := by unfold Hid newB; simp; omega
      obtain ⟨m, rfl⟩ : ∃ m : Nat, l = (m : Int) := ⟨l.toNat, by omega⟩
      have q1 : decide ((m : Int) < 1) = false := by simpa using h1
      have q2 : decide ((4096 : Int) < (m : Int)) = false := by simpa using h2
      have HR : Hid ((w.alloc (.cells #[.int .i64 (m : Int), .slice none 0 0] 60)).heap[w.heap.size]? = some (.cells (mkN m (.slice none 0 0)) 60 (0, 0))) := heap_alloc_new w _
      go_enter Try.func14, Try.ntmps14
      go_wp2_with fail
      go_ret2
      exact .inr ⟨HE.out, m, rfl, rfl, ⟨HR.out, Fl.nil _⟩, (Below.refl _ _).alloc (Nat.le_refl _) _⟩

/-! ### has -/
theorem HAt.cellsN {m : Nat} {w : World} {pb : Nat} {v : Value} {E : List En} (h : HAt 60 (mkN m) w pb v E) : w.cell? ⟨pb, 0, none⟩ = some (.int .i64 (m : Int)) ∧ w.cell? ⟨pb, 1, none⟩ = some v ∧ w.frozen? ⟨pb, 1, none⟩ = false := by
  have hr := h.row
  refine ⟨?_, ?_, frozen_of_row _ _ _ _ _ hr⟩ <;> (rw [cell_of_row _ _ _ _ _ _ hr]; rfl)

theorem has_any (w : World) (pb m : Nat) (v : Value) (E : List En) (i : Int) (h : HAt 60 (mkN m) w pb v E) :
    Calls Try.prog 33 #[.pointer (some ⟨pb, 0, none⟩), .int .i64 i] w fun e w' => e = .returned (.bool (inR i E.length)) ∧ w' = w := by
  obtain ⟨-, c1, -⟩ := h.cellsN
  obtain ⟨a, n, cap, rfl, HN, hn1, hn2, -⟩ := h.fl.shape
  unfold maxLen at hn2
  rw [← HN.out]
  clear h HN
  by_cases h1 : 0 ≤ i
  · have q1 : decide (0 ≤ i) = true := by simpa using h1
    have HE : Hid (inR i n = decide (i < (n : Int))) := by unfold Hid inR; rw [q1]; simp
    rw [HE.out]
    go_enter Try.func33, Try.ntmps33
    go_wp2_with fail
    go_ret
    exact ⟨rfl, rfl⟩
  · have q1 : decide (0 ≤ i) = false := by simpa using h1
    have HE : Hid (inR i n = false) := by unfold Hid inR; rw [q1]; simp
    rw [HE.out]
    go_enter Try.func33, Try.ntmps33
    go_wp2_with fail
    go_ret
    exact ⟨rfl, rfl⟩

/-! ### twin -/
theorem wpList_copy_run {P : Program} (w : World) {ops : Array Oper} {rest : List Oper} {o : Oper} {a : Act} {Q : Exit → Act → World → Prop} (hgd : o.guard = none) (d s : Operand) (t t' : TypeId)
    (ho : o.op = .call { callee := .builtin .copy, args := #[d, s], argTypes := #[t, t'] }) (v u : Value) (hd : a.eval d = v) (hs : a.eval s = u) {v' : Value} {w' : World}
    (hr : (Builtin.copy_ #[t, t'] o.type #[v, u]).run P w = .ok v' w') (h : wpList P ops Q rest (a.put o.dst v') w') : wpList P ops Q (o :: rest) a w :=
  wpList_plain hgd fun _ hK => by
    unfold Oper.wp execOp
    simp only [ho, resolve, invoke, builtin, Sem.run_bind, Sem.run_pure, Result.andThen_ok, List.map_toArray, List.map_cons, List.map_nil, hd, hs, hr]
    exact hK _ _ h
theorem wpList_make_run {P : Program} (w : World) {ops : Array Oper} {rest : List Oper} {o : Oper} {a : Act} {Q : Exit → Act → World → Prop} (hgd : o.guard = none) (x y : Operand) (t : TypeId)
    (ho : o.op = .makeSlice t x y) (v u : Value) (hd : a.eval x = v) (hs : a.eval y = u) {v' : Value} {w' : World}
    (hr : (Instr.makeSlice t v u).run P w = .ok v' w') (h : wpList P ops Q rest (a.put o.dst v') w') : wpList P ops Q (o :: rest) a w :=
  wpList_plain hgd fun _ hK => by
    unfold Oper.wp
    simp [execOp, ho, hd, hs, hr, Result.andThen]
    exact hK _ _ h
theorem twin_any (w : World) (K : Nat → Prop) (ad : Nat) (u : Value) (L : List Nat) (hu : SeesB K w u L) (hl : L.length ≤ 65535) :
    Calls Try.prog 34 #[.agg #[.int .u32 (ad : Int), u]] w fun e w' => ∃ a n c, e = .returned (.agg #[.int .u32 (ad : Int), .slice a n c]) ∧ OwnB w' w.heap.size (.slice a n c) L ∧ Below w.heap.size w w' := by
  obtain ⟨pa, n, pc, rfl, HN, hn1, hn2⟩ := hu.shape
  obtain ⟨w1, HW1⟩ : ∃ w1, Hid (w1 = (w.alloc (.cells #[.int .u32 (ad : Int), .slice pa n pc] 41)).alloc (.cells #[.int .u32 0, .slice none 0 0] 41)) := ⟨_, rfl⟩
  have hb1 : Below w.heap.size w w1 := by rw [HW1.out]; exact ((Below.refl _ _).alloc (Nat.le_refl _) _).alloc (by simp) _
  have r1 : w1.heap[w.heap.size]? = some (.cells #[.int .u32 (ad : Int), .slice pa n pc] 41 (0, 0)) := by rw [HW1.out, Below.heap_alloc _ _ _ (by simp)]; exact heap_alloc_new w _
  have r2 : w1.heap[w.heap.size + 1]? = some (.cells #[.int .u32 0, .slice none 0 0] 41 (0, 0)) := by
    have h := heap_alloc_new (w.alloc (.cells #[.int .u32 (ad : Int), .slice pa n pc] 41)) (.cells #[.int .u32 0, .slice none 0 0] 41)
    rw [World.size_alloc] at h
    rw [HW1.out]; exact h
  have hs1 : w1.heap.size = w.heap.size + 2 := by rw [HW1.out]; simp
  obtain ⟨w2, w3, hmk, hcp, hb2, ho3, hb3, hk3⟩ := copy_new w1 K pa n pc L (hu.below hb1) (by have := HN.out; omega)
  obtain ⟨g, HG⟩ : ∃ g, Hid (g = w1.heap.size) := ⟨_, rfl⟩
  rw [← HG.out] at hmk hcp ho3 hk3
  obtain ⟨b1, HB1⟩ : ∃ b, Hid (b = w.heap.size) := ⟨_, rfl⟩
  obtain ⟨b2, HB2⟩ : ∃ b, Hid (b = w.heap.size + 1) := ⟨_, rfl⟩
  rw [← HB1.out] at r1
  rw [← HB2.out] at r2
  have e1 : b1 < w1.heap.size := (Array.getElem?_eq_some_iff.1 r1).1
  have e2 : b2 < w1.heap.size := (Array.getElem?_eq_some_iff.1 r2).1
  have s1 : w2.heap[b1]? = _ := (hb2.block b1 e1).trans r1
  have t1 : w3.heap[b1]? = _ := (hb3.block b1 e1).trans r1
  have t2 : w3.heap[b2]? = _ := (hb3.block b2 e2).trans r2
  have c1 : w1.cell? ⟨b1, 1, none⟩ = some (.slice pa n pc) := by rw [cell_of_row _ _ _ _ _ _ r1]; rfl
  have d1 : w2.cell? ⟨b1, 1, none⟩ = some (.slice pa n pc) := by rw [cell_of_row _ _ _ _ _ _ s1]; rfl
  have f0 : w3.cell? ⟨b1, 0, none⟩ = some (.int .u32 (ad : Int)) := by rw [cell_of_row _ _ _ _ _ _ t1]; rfl
  have g0 : w3.cell? ⟨b2, 0, none⟩ = some (.int .u32 0) := by rw [cell_of_row _ _ _ _ _ _ t2]; rfl
  have g1 : w3.cell? ⟨b2, 1, none⟩ = some (.slice none 0 0) := by rw [cell_of_row _ _ _ _ _ _ t2]; rfl
  have g2 : w3.frozen? ⟨b2, 0, none⟩ = false := frozen_of_row _ _ _ _ _ t2
  have g3 : w3.frozen? ⟨b2, 1, none⟩ = false := frozen_of_row _ _ _ _ _ t2
  obtain ⟨w4, HW4⟩ : ∃ w4, Hid (w4 = (w3.setCell ⟨b2, 0, none⟩ (.int .u32 (ad : Int))).setCell ⟨b2, 1, none⟩ (.slice (some ⟨g, 0, none⟩) n n)) := ⟨_, rfl⟩
  have t4 : w4.heap[b2]? = some (.cells #[.int .u32 (ad : Int), .slice (some ⟨g, 0, none⟩) n n] 41 (0, 0)) := by
    rw [HW4.out]; exact set_cells (i := 1) (set_cells (i := 0) t2)
  have k4 : Keeps (fun k => k = b2) w3 w4 := by
    rw [HW4.out]; exact Keeps.set (S := fun k => k = b2) (Keeps.set (S := fun k => k = b2) (Keeps.refl _ _) ⟨b2, 0, none⟩ rfl _) ⟨b2, 1, none⟩ rfl _
  have HO : Hid (OwnB w4 w.heap.size (.slice (some ⟨g, 0, none⟩) n n) L) := (ho3.keeps k4 fun k h1 h2 => by
    have := (ho3.lt h1).1; have := HG.out; omega).low (by rw [HG.out]; exact hb1.size)
  have HB : Hid (Below w.heap.size w w4) := k4.below' (hb1.trans (hb3.mono hb1.size)) (fun k e => by have := HB2.out; omega) (Nat.le_refl _)
  have j0 : w4.cell? ⟨b2, 0, none⟩ = some (.int .u32 (ad : Int)) := by rw [cell_of_row _ _ _ _ _ _ t4]; rfl
  have j1 : w4.cell? ⟨b2, 1, none⟩ = some (.slice (some ⟨g, 0, none⟩) n n) := by rw [cell_of_row _ _ _ _ _ _ t4]; rfl
  have HM := hid hmk
  have HC := hid hcp
  clear hu hb1 r1 r2 hs1 hmk hcp hb2 ho3 hb3 hk3 e1 e2 s1 t1 t2 t4 k4 hl hn2
  go_enter Try.func34, Try.ntmps34
  go_upto_region 1 with fail
  rw [← HW1.out, ← HB1.out]
  rw [show b1 + 1 = b2 by have := HB1.out; have := HB2.out; omega]
  go_wp2_with (first | (refine wpList_make_run _ rfl _ _ _ rfl _ _ rfl rfl HM.out ?_) | (refine wpList_copy_run _ rfl _ _ _ _ rfl _ _ rfl rfl (HC.out _) ?_) | fail)
  rw [← HW4.out]
  refine bodyPost_ret (v := .agg #[.int .u32 (ad : Int), .slice (some ⟨g, 0, none⟩) n n]) (by simp [results, Try.results34, go_sem, j0, j1]) rfl ⟨_, _, _, rfl, HO.out, HB.out⟩
end Go.Proofs.Ytaelfhjhinfikab
