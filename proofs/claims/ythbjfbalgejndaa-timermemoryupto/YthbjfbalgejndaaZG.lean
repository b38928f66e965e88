/-
  TimerMemory: what one round lays into the book.
-/
import Derived.Test.YthbjfbalgejndaaZF
namespace Go.Proofs.Ythbjfbalgejndaa
open Go.ChangeShapes Go.WideShapes Go.ChangeAt Go.RowKit Go.Maps H
set_option maxHeartbeats 1000000
set_option maxRecDepth 100000

/-- Two lists that are the same and grow. -/
def P7 (w0 w : World) (b bm : Nat) (L : List Dl) (vb : Value) (R : Nat) (g u : Value) (N : Nat) : Prop :=
  ∃ go S Rs Xs A, Wk w0 w b bm go S L vb Rs Xs ∧ Rs.length = R ∧ (g, A) ∈ Xs ∧ (u, A) ∈ Xs ∧ Top g A.length Xs ∧ Top u A.length Xs ∧ Dis g u ∧ A.length ≤ N ∧ lenOf g = A.length
def WkE (w0 w : World) (b bm : Nat) (L : List Dl) (vb : Value) (R : Nat) : Prop := ∃ go S Rs Xs, Wk w0 w b bm go S L vb Rs Xs ∧ Rs.length = R

section
variable {w0 w w' : World} {b bm : Nat} {go : Option Nat} {S L : List Dl} {vb : Value} {Rs : List (Value × Value)} {Xs : List (Value × List Int)}
theorem P4.chain {D : List Int} {m1 m2 m3 : Int} {n c nu cu : Nat} {a au : Option Addr} (h : P4 w0 w b bm go S L vb Rs (.slice a n c) D m1 (.slice au nu cu) D.length Xs) (h2 : In64 m2) (h3 : In64 m3) (hz : D.length ≤ 300) {R : Nat} (hR : Rs.length = R) (hRz : R ≤ 4294967290) :
    ∃ a1 n1 c1 wA a2 n2 c2 wB a3 n3 c3 wC a4 n4 c4 wD a5 n5 c5 wE a6 n6 c6 wF a7 n7 c7 wG a8 n8 c8 wH a9 n9 c9 wI a10 n10 c10 wJ,
      Hid ((Builtin.append_ #[37, 37] 37 #[.slice a n c, .slice (some ⟨w.heap.size, 0, none⟩) 1 1]).run Try.prog (w.alloc (.cells #[.int .i64 m2] 3)) = .ok (.slice a1 n1 c1) wA) ∧
      Hid ((Builtin.append_ #[37, 37] 37 #[.slice a1 n1 c1, .slice (some ⟨wA.heap.size, 0, none⟩) 2 2]).run Try.prog (wA.alloc (.cells #[.int .i64 m3, .int .i64 m3] 3)) = .ok (.slice a2 n2 c2) wB) ∧
      Hid ((Builtin.append_ #[32, 32] 32 #[vb, .slice (some ⟨wB.heap.size, 0, none⟩) 1 1]).run Try.prog (wB.alloc (.cells #[.slice a n c, .slice au nu cu] 42)) = .ok (.slice a3 n3 c3) wC) ∧
      Hid ((Builtin.append_ #[37, 37] 37 #[.slice none 0 0, .slice au nu cu]).run Try.prog wC = .ok (.slice a4 n4 c4) wD) ∧
      Hid ((Builtin.append_ #[37, 37] 37 #[.slice a4 n4 c4, .slice (some ⟨wD.heap.size, 0, none⟩) 1 1]).run Try.prog (wD.alloc (.cells #[.int .i64 m2] 3)) = .ok (.slice a5 n5 c5) wE) ∧
      Hid ((Builtin.append_ #[32, 32] 32 #[.slice a3 n3 c3, .slice (some ⟨wE.heap.size, 0, none⟩) 1 1]).run Try.prog (wE.alloc (.cells #[.slice a1 n1 c1, .slice a5 n5 c5] 42)) = .ok (.slice a6 n6 c6) wF) ∧
      Hid ((Builtin.append_ #[37, 37] 37 #[.slice none 0 0, .slice a5 n5 c5]).run Try.prog wF = .ok (.slice a7 n7 c7) wG) ∧
      Hid ((Builtin.append_ #[37, 37] 37 #[.slice a7 n7 c7, .slice (some ⟨wG.heap.size, 0, none⟩) 2 2]).run Try.prog (wG.alloc (.cells #[.int .i64 m3, .int .i64 m3] 3)) = .ok (.slice a8 n8 c8) wH) ∧
      Hid ((Builtin.append_ #[32, 32] 32 #[.slice a6 n6 c6, .slice (some ⟨wH.heap.size, 0, none⟩) 1 1]).run Try.prog (wH.alloc (.cells #[.slice a2 n2 c2, .slice a8 n8 c8] 42)) = .ok (.slice a9 n9 c9) wI) ∧
      Hid ((Builtin.append_ #[37, 37] 37 #[.slice none 0 0, .slice a8 n8 c8]).run Try.prog wI = .ok (.slice a10 n10 c10) wJ) ∧
      Hid (P7 w0 wJ b bm L (.slice a9 n9 c9) (R + 3) (.slice a2 n2 c2) (.slice a10 n10 c10) 303) := by
  have hov := h.ov
  rw [List.drop_length, List.append_nil] at hov
  obtain ⟨A, hA⟩ : ∃ A, A = List.replicate D.length m1 := ⟨_, rfl⟩
  have hmu := h.mu
  rw [← hA] at hov hmu
  have hlA : A.length = D.length := by rw [hA, List.length_replicate]
  have hinA : ∀ x ∈ A, In64 x := fun x hx => by rw [hA] at hx; rw [(List.mem_replicate.1 hx).2]; exact h.inm
  have i2 : ∀ x ∈ [m2], In64 x := fun x hx => by simp at hx; subst hx; exact h2
  have i3 : ∀ x ∈ [m3, m3], In64 x := fun x hx => by simp at hx; subst hx; exact h3
  have W1 := h.wk.more hov hinA
  have t1 : Top (.slice a n c) A.length ((.slice a n c, A) :: Xs) := fun e he k hk hk' => by
    rcases List.mem_cons.1 he with rfl | he
    · exact Nat.le_refl _
    · exact absurd hk' (h.al e he k hk)
  obtain ⟨a1, c1, wA, rA, WA, tA, -⟩ := W1.app (M := [m2]) (m := 1) List.mem_cons_self t1 rfl (by decide) i2 (by omega) _ rfl
  have lA : (A ++ [m2]).length = A.length + 1 := by simp
  rw [← lA] at rA WA tA
  obtain ⟨a2, c2, wB, rB, WB, tB, -⟩ := WA.app (M := [m3, m3]) (m := 2) List.mem_cons_self tA rfl (by decide) i3 (by omega) _ rfl
  have lB : (A ++ [m2] ++ [m3, m3]).length = (A ++ [m2]).length + 2 := by simp
  rw [← lB] at rB WB tB
  obtain ⟨X3, hX3⟩ : ∃ X3, X3 = ((Value.slice a2 (A ++ [m2] ++ [m3, m3]).length c2, A ++ [m2] ++ [m3, m3]) :: (.slice a1 (A ++ [m2]).length c1, A ++ [m2]) :: (.slice a n c, A) :: Xs) := ⟨_, rfl⟩
  have m3v : (Value.slice a n c, A) ∈ X3 := by rw [hX3]; simp
  have m3u : (Value.slice au nu cu, A) ∈ X3 := by rw [hX3]; simp [hmu]
  have m31 : (Value.slice a1 (A ++ [m2]).length c1, A ++ [m2]) ∈ X3 := by rw [hX3]; simp
  have m32 : (Value.slice a2 (A ++ [m2] ++ [m3, m3]).length c2, A ++ [m2] ++ [m3, m3]) ∈ X3 := by rw [hX3]; simp
  rw [← hX3] at WB tB
  clear hX3
  obtain ⟨a3, n3, c3, wC, rC, WC, zC⟩ := WB.row m3v m3u (by omega)
  obtain ⟨a4, c4, wD, rD, WD, tD, zD, oD⟩ := WC.copy m3u (by omega)
  obtain ⟨dD, uD⟩ := oD (.slice a2 (A ++ [m2] ++ [m3, m3]).length c2) (A ++ [m2] ++ [m3, m3]).length fun k hk => WC.lt m32 hk
  obtain ⟨a5, c5, wE, rE, WE, tE, oE⟩ := WD.app (M := [m2]) (m := 1) List.mem_cons_self tD rfl (by decide) i2 (by omega) _ rfl
  obtain ⟨dE, uE⟩ := oE (.slice a2 (A ++ [m2] ++ [m3, m3]).length c2) (A ++ [m2] ++ [m3, m3]).length (fun k hk => WD.lt (List.mem_cons_of_mem _ m32) hk) dD.symm (uD tB)
  rw [← lA] at rE WE tE dE uE
  obtain ⟨a6, n6, c6, wF, rF, WF, zF⟩ := WE.row (List.mem_cons_of_mem _ (List.mem_cons_of_mem _ m31)) List.mem_cons_self (by simp; omega)
  obtain ⟨a7, c7, wG, rG, WG, tG, zG, oG⟩ := WF.copy List.mem_cons_self (by rw [lA]; omega)
  obtain ⟨dG, uG⟩ := oG (.slice a2 (A ++ [m2] ++ [m3, m3]).length c2) (A ++ [m2] ++ [m3, m3]).length fun k hk => WF.lt (List.mem_cons_of_mem _ (List.mem_cons_of_mem _ m32)) hk
  obtain ⟨a8, c8, wH, rH, WH, tH, oH⟩ := WG.app (M := [m3, m3]) (m := 2) List.mem_cons_self tG rfl (by decide) i3 (by rw [lA]; omega) _ rfl
  obtain ⟨dH, uH⟩ := oH (.slice a2 (A ++ [m2] ++ [m3, m3]).length c2) (A ++ [m2] ++ [m3, m3]).length (fun k hk => WG.lt (List.mem_cons_of_mem _ (List.mem_cons_of_mem _ (List.mem_cons_of_mem _ m32))) hk) dG.symm (uG uE)
  rw [← lB] at rH WH tH dH uH
  obtain ⟨a9, n9, c9, wI, rI, WI, zI⟩ := WH.row (List.mem_cons_of_mem _ (List.mem_cons_of_mem _ (List.mem_cons_of_mem _ (List.mem_cons_of_mem _ m32)))) List.mem_cons_self (by simp; omega)
  obtain ⟨a10, c10, wJ, rJ, WJ, tJ, zJ, oJ⟩ := WI.copy List.mem_cons_self (by rw [lB, lA]; omega)
  obtain ⟨dJ, uJ⟩ := oJ (.slice a2 (A ++ [m2] ++ [m3, m3]).length c2) (A ++ [m2] ++ [m3, m3]).length fun k hk => WI.lt (List.mem_cons_of_mem _ (List.mem_cons_of_mem _ (List.mem_cons_of_mem _ (List.mem_cons_of_mem _ m32)))) hk
  exact ⟨a1, _, c1, wA, a2, _, c2, wB, a3, n3, c3, wC, a4, _, c4, wD, a5, _, c5, wE, a6, n6, c6, wF, a7, _, c7, wG, a8, _, c8, wH, a9, n9, c9, wI, a10, _, c10, wJ, rA, rB, rC, rD, rE, rF, rG, rH, rI, rJ,
    go, S, _, _, _, WJ, by simp [hR], List.mem_cons_of_mem _ (List.mem_cons_of_mem _ (List.mem_cons_of_mem _ (List.mem_cons_of_mem _ (List.mem_cons_of_mem _ m32)))), List.mem_cons_self, uJ uH, tJ, dJ, by rw [lB, lA]; omega, rfl⟩

theorem P7.step {R N ng cg nu cu : Nat} {ag au : Option Addr} {m : Int} (h : P7 w0 w b bm L vb R (.slice ag ng cg) (.slice au nu cu) N) (hm : In64 m) (hN : N ≤ 4294967290) :
    ∃ a1 n1 c1 wA a2 n2 c2 wB,
      Hid ((Builtin.append_ #[37, 37] 37 #[.slice ag ng cg, .slice (some ⟨w.heap.size, 0, none⟩) 1 1]).run Try.prog (w.alloc (.cells #[.int .i64 m] 3)) = .ok (.slice a1 n1 c1) wA) ∧
      Hid ((Builtin.append_ #[37, 37] 37 #[.slice au nu cu, .slice (some ⟨wA.heap.size, 0, none⟩) 1 1]).run Try.prog (wA.alloc (.cells #[.int .i64 m] 3)) = .ok (.slice a2 n2 c2) wB) ∧
      Hid (P7 w0 wB b bm L vb R (.slice a1 n1 c1) (.slice a2 n2 c2) (N + 1)) := by
  obtain ⟨go, S, Rs, Xs, A, W, hR, mg, mu, tg, tu, hd, hA, -⟩ := h
  have im : ∀ x ∈ [m], In64 x := fun x hx => by simp at hx; subst hx; exact hm
  obtain ⟨a1, c1, wA, rA, WA, tA, oA⟩ := W.app (M := [m]) (m := 1) mg tg rfl (by decide) im (by omega) _ rfl
  obtain ⟨dA, uA⟩ := oA (.slice au nu cu) A.length (fun k hk => W.lt mu hk) hd tu
  obtain ⟨a2, c2, wB, rB, WB, tB, oB⟩ := WA.app (M := [m]) (m := 1) (List.mem_cons_of_mem _ mu) uA rfl (by decide) im (by omega) _ rfl
  obtain ⟨dB, uB⟩ := oB (.slice a1 (A.length + 1) c1) (A.length + 1) (fun k hk => WA.lt List.mem_cons_self hk) dA.symm tA
  exact ⟨a1, _, c1, wA, a2, _, c2, wB, rA, rB, go, S, Rs, _, A ++ [m], WB, hR, List.mem_cons_of_mem _ List.mem_cons_self, List.mem_cons_self, by simpa using uB, by simpa using tB, dB.symm, by simp; omega, by simp [lenOf]⟩
theorem P7.done {R N ng cg nu cu : Nat} {ag au : Option Addr} (h : P7 w0 w b bm L vb R (.slice ag ng cg) (.slice au nu cu) N) (hR : R ≤ 4294967290) :
    ∃ a' n' c' w', Hid ((Builtin.append_ #[32, 32] 32 #[vb, .slice (some ⟨w.heap.size, 0, none⟩) 1 1]).run Try.prog (w.alloc (.cells #[.slice ag ng cg, .slice au nu cu] 42)) = .ok (.slice a' n' c') w') ∧ Hid (WkE w0 w' b bm L (.slice a' n' c') (R + 1)) := by
  obtain ⟨go, S, Rs, Xs, A, W, hR', mg, mu, -⟩ := h
  obtain ⟨a', n', c', w', r, W', -⟩ := W.row mg mu (by omega)
  exact ⟨a', n', c', w', r, go, S, _, _, W', by simp [hR']⟩
theorem P7.len {R N ng cg : Nat} {ag : Option Addr} {u : Value} (h : P7 w0 w b bm L vb R (.slice ag ng cg) u N) : ng ≤ N := by
  obtain ⟨go, S, Rs, Xs, A, W, hR', mg, mu, _, _, _, h1, h2⟩ := h
  simp only [lenOf] at h2
  omega

theorem WkE.below {R : Nat} (h : WkE w0 w b bm L vb R) (hb : Below w.heap.size w w') : WkE w0 w' b bm L vb R := by
  obtain ⟨go, S, Rs, Xs, W, e⟩ := h
  exact ⟨go, S, Rs, Xs, W.below hb, e⟩
theorem WkE.be {R : Nat} (h : WkE w0 w b bm L vb R) : Below w0.heap.size w0 w := by
  obtain ⟨go, S, Rs, Xs, W, e⟩ := h
  exact W.tb.be
theorem WkE.set {R : Nat} (h : WkE w0 w b bm L vb R) {i : Nat} {d : Dl} (hd : L[i]? = some d) (hi : i < 300) (h1 : In64 d.1) (h2 : In64 d.2) :
    Calls Try.prog 13 #[.pointer (some ⟨b, 0, none⟩), .int .i64 d.1, .int .i64 d.2] w.drew fun e w' => e = .returned (.int .i64 0) ∧ WkE w0 w' b bm L vb R := by
  obtain ⟨go, S, Rs, Xs, W, hR⟩ := h
  refine ((W.below (below_drew (Below.refl _ _))).setI hd hi h1 h2).mono ?_
  rintro e w' ⟨rfl, go', S', h'⟩
  exact ⟨rfl, go', S', Rs, Xs, h', hR⟩
/-- What is compared. -/
theorem WkE.pair {R nb cb : Nat} {ab : Option Addr} (h : WkE w0 w b bm L (.slice ab nb cb) R) :
    nb = R ∧ ∀ i, i < R → ∃ gb a n c a' n' c', ab = some ⟨gb, 0, none⟩ ∧ (∀ t : Beh w, t.wd.cell? ⟨gb, i * 2, none⟩ = some (.slice a n c)) ∧ (∀ t : Beh w, t.wd.cell? ⟨gb, i * 2 + 1, none⟩ = some (.slice a' n' c')) ∧
      ∀ t : Beh w, Hid (Calls Try.prog 17 #[.slice a n c, .slice a' n' c'] t.wd fun e w' => e = .returned (.bool true) ∧ ∃ t' : Beh w, w' = t'.wd) := by
  obtain ⟨go, S, Rs, Xs, W, rfl⟩ := h
  obtain ⟨ab', cb', eb, -, -, l0, l1⟩ := Me.row_len W.ow
  simp only [Value.slice.injEq] at eb
  obtain ⟨rfl, rfl, rfl⟩ := eb
  refine ⟨rfl, fun i hi => ?_⟩
  cases ab with
  | none => have := (l0 rfl).1; omega
  | some p =>
  obtain ⟨gb, rfl, -, hgb⟩ := l1 p rfl
  obtain ⟨e1, e2⟩ := hs_at Rs i Rs[i] (List.getElem?_eq_getElem hi)
  have cv := (Me.row_cell (xs := hs Rs) W.ow e1).1
  have cw := (Me.row_cell (xs := hs Rs) W.ow e2).1
  obtain ⟨K, q1, q2⟩ := W.rs Rs[i] (List.getElem_mem hi)
  generalize Rs[i] = r at *
  obtain ⟨v, u⟩ := r
  simp only at cv cw q1 q2
  obtain ⟨p1, p3⟩ := W.vs _ q1
  obtain ⟨p2, -⟩ := W.vs _ q2
  simp only at p1 p2 p3
  obtain ⟨a, c, x1, -⟩ := ownI_len p1
  obtain ⟨a', c', x2, -⟩ := ownI_len p2
  subst x1 x2
  refine ⟨gb, a, _, c, a', _, c', rfl, fun t => (t.ok.cell (p := ⟨gb, i * 2, none⟩) hgb).trans cv, fun t => (t.ok.cell (p := ⟨gb, i * 2 + 1, none⟩) hgb).trans cw, fun t => ?_⟩
  have := sameInts_any _ _ K K t.wd (OwnI.sees (Me.row_below p1 t.ok) p3) (OwnI.sees (Me.row_below p2 t.ok) p3)
  rw [decide_eq_true rfl] at this
  exact Calls.beh this

/-- A round up to Due and both Lens. -/
def P4E (w0 w : World) (b bm : Nat) (L : List Dl) (vb : Value) (R : Nat) (v : Value) (D : List Int) (m : Int) (u : Value) (i : Nat) : Prop := ∃ go S Rs Xs, P4 w0 w b bm go S L vb Rs v D m u i Xs ∧ Rs.length = R ∧ ∀ x ∈ D, ∀ y ∈ S, y.1 ≠ x
theorem WkE.due {R : Nat} (h : WkE w0 w b bm L vb R) (now m : Int) (hn : In64 now) (hm : In64 m) :
    ∃ sl : Nat, Hid (Calls Try.prog 14 #[.pointer (some ⟨b, 0, none⟩)] w fun e w' => e = .returned (.int .i64 (sl : Int)) ∧ w' = w) ∧ sl ≤ 300 ∧
    Hid (Calls Try.prog 15 #[.pointer (some ⟨b, 0, none⟩), .int .i64 now] w fun e W1 => ∃ a n c rl D, e = .returned (.slice a n c) ∧ Hid (sl = n + rl) ∧ n ≤ 300 ∧ rl ≤ 300 ∧ Hid (n = D.length) ∧ n ≤ c ∧ c ≤ 9223372036854775807 ∧ Hid (Calls Try.prog 14 #[.pointer (some ⟨b, 0, none⟩)] W1 fun e w' => e = .returned (.int .i64 (rl : Int)) ∧ w' = W1) ∧
      Hid (P4E w0 W1 b bm L vb R (.slice a n c) D m (.slice none 0 0) 0)) := by
  obtain ⟨go, S, Rs, Xs, W, hR⟩ := h
  refine ⟨S.length, len_any b bm go 65536 S w W.tb.tm, W.tb.len, ?_⟩
  refine (W.tb.due now hn).mono ?_
  rintro e W1 ⟨v, rfl, ho, ht, hf, hl, hi⟩
  have hW := W.fr hf ht
  obtain ⟨a, c, e1, hc1, hc2, -⟩ := ownI_len ho
  subst e1
  have hsp := congrArg List.length (due_split S now)
  rw [List.length_append] at hsp
  have hSl := W.tb.len
  have hB := W.tb.be.size
  have hsz := hf.size
  unfold maxLen at hc2
  refine ⟨a, _, c, (dueR S now).length, _, rfl, ?_, by rw [List.length_map]; exact hl, by omega, hid rfl, hc1, by omega, len_any b bm go 65536 _ W1 ht.tm, go, dueR S now, Rs, _, P4.start hW (Me.row_low ho hB) (fun e he k hk hk' => ?_) hi hm, hR, fun x hx y hy e => ?_⟩
  · unfold Hid
    rw [List.length_map]
    exact hsp.symm
  · have := (World.ownsRow.lt ho k hk).1
    have := W.lt he hk'
    omega
  · obtain ⟨z, hz, rfl⟩ := List.mem_map.1 hx
    have hsrt := W.tb.tm.sorted
    rw [← due_split S now] at hsrt
    have hlt := (List.pairwise_append.1 hsrt).2.2 z hz y hy
    have hzS : z ∈ S := by rw [← due_split S now]; exact List.mem_append_left _ hz
    have hyS : y ∈ S := by rw [← due_split S now]; exact List.mem_append_right _ hy
    have hzy := W.tb.tm.ids z hzS y hyS e.symm
    exact hlt.ne hzy
theorem P4E.at {R n c i nu cu : Nat} {a au : Option Addr} {D : List Int} {m : Int} (h : P4E w0 w b bm L vb R (.slice a n c) D m (.slice au nu cu) i) (hi : i < D.length) (hz : D.length ≤ 300) :
    ∃ q x, a = some ⟨q, 0, none⟩ ∧ w.cell? ⟨q, i, none⟩ = some (.int .i64 x) ∧ w.frozen? ⟨q, i, none⟩ = false ∧ (w.setCell ⟨q, i, none⟩ (.int .i64 m)).cell? ⟨q, i, none⟩ = some (.int .i64 m) ∧
      Hid (Calls Try.prog 16 #[.pointer (some ⟨b, 0, none⟩), .int .i64 x] w fun e w' => e = .returned (.tuple #[.int .i64 0, .int .i64 3]) ∧ w' = w) ∧
      Hid (∃ a' n' c' w', Hid ((Builtin.append_ #[37, 37] 37 #[.slice au nu cu, .slice (some ⟨w.heap.size, 0, none⟩) 1 1]).run Try.prog ((w.setCell ⟨q, i, none⟩ (.int .i64 m)).alloc (.cells #[.int .i64 m] 3)) = .ok (.slice a' n' c') w') ∧ Hid (P4E w0 w' b bm L vb R (.slice (some ⟨q, 0, none⟩) n c) D m (.slice a' n' c') (i + 1))) := by
  obtain ⟨go, S, Rs, Xs, h, hR, hno⟩ := h
  obtain ⟨q, x, rfl, hx, h1, h2, h3, H4⟩ := h.step hi (by omega)
  have hxm := List.mem_of_getElem? hx
  have hw := when_any b bm go 65536 S x w h.wk.tb.tm (h.inD x hxm)
  rw [whenS_free (hno x hxm)] at hw
  obtain ⟨a', n', c', w', r, ⟨Xs', h5⟩⟩ := H4.out
  exact ⟨q, x, rfl, h1, h2, h3, hw, a', n', c', w', r, go, S, Rs, Xs', h5, hR, hno⟩
theorem P4E.be {R i : Nat} {v u : Value} {D : List Int} {m : Int} (h : P4E w0 w b bm L vb R v D m u i) : Below w0.heap.size w0 w := by
  obtain ⟨go, S, Rs, Xs, h, -⟩ := h
  exact h.wk.tb.be
end
end Go.Proofs.Ythbjfbalgejndaa
