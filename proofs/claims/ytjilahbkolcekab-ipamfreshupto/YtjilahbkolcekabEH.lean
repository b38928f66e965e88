/-
  The reference: Add, Del.
-/
import Derived.Test.YtjilahbkolcekabEG
import Derived.Deep.RegionLaw
import Derived.Deep.AppendLies
namespace Go.Proofs.Ytjilahbkolcekab
open Go.ChangeShapes Go.WideShapes Go.ChangeAt Go.RowKit Go.Maps Tri
set_option maxHeartbeats 2000000
set_option maxRecDepth 100000

theorem uPs : Try.prog.underlying 49 = some (.slice 80) := by kernel_rfl
theorem infoPd : (Try.prog.info? 80).map (fun i => (i.zero, i.size, i.bytes)) = some (some (.agg #[.string ⟨#[]⟩, .int .u32 0]), 2, 24) := by kernel_rfl
theorem infoPd_at : ∃ i, Try.prog.info? 80 = some i ∧ i.zero = some (.agg #[.string ⟨#[]⟩, .int .u32 0]) ∧ i.size = 2 ∧ i.bytes = 24 := by
  have h := infoPd
  cases hq : Try.prog.info? 80 with
  | none => rw [hq] at h; cases h
  | some i =>
    rw [hq] at h
    simp at h
    exact ⟨i, rfl, h.1, h.2.1, h.2.2⟩

/-- The block of v', if it is not that of v, is new. -/
def NwB (v v' : Value) (n : Nat) : Prop := ∀ g, v'.ownBlock = some g → v.ownBlock = some g ∨ n ≤ g

/-- A pod is laid behind an own list. -/
theorem append_pod (w : World) (ty : TypeId) (B : Nat) (v : Value) (T : List Pod) (p : Pod) (b : Nat) (hv : OwnD w B v T) (hc0 : w.cell? ⟨b, 0, none⟩ = some (.string p.nm)) (hc1 : w.cell? ⟨b, 1, none⟩ = some (.int .u32 (p.ad : Int))) (hB : B ≤ w.heap.size) (hbig : T.length + 1 ≤ 8589934592) :
    ∃ v' w', (Builtin.append_ #[49, 49] ty #[v, .slice (some ⟨b, 0, none⟩) 1 1]).run Try.prog w = .ok v' w' ∧ OwnD w' B v' (T ++ [p]) ∧ w.grownBy w' v.ownBlock ∧ NwB v v' w.heap.size := by
  obtain ⟨i0, hi0, hz0, hz1, hz2⟩ := infoPd_at
  have hsrc : ∀ j u, (pd [p])[j]? = some u → w.cell? ((⟨b, 0, none⟩ : Addr).add j) = some u := fun j u hj => by
    rw [Addr.add_lit]
    match j, hj with
    | 0, hj => simp [pd] at hj; rw [← hj]; exact hc0
    | 1, hj => simp [pd] at hj; rw [← hj]; exact hc1
    | j + 2, hj => simp [pd] at hj
  obtain ⟨v', w', hr, h5, h6, -⟩ := run_append_own (P := Try.prog) w B 49 ty 80 i0 _ 2 24 uPs hi0 hz0 hz1 hz2 rfl (by decide) v T.length (pd T) hv ⟨b, 0, none⟩ 1 1 (pd [p]) rfl hsrc (pd_one _) (by unfold maxLen; omega) (by omega) hB
  refine ⟨v', w', hr, ?_, h6, ?_⟩
  · unfold OwnD
    rw [List.length_append, pd_append]
    exact h5
  · intro g0 hg0
    rcases h5.2 with ⟨_, h0⟩ | ⟨g', cap', cur', rfl, k1, k2, k3, k4, k5, k6⟩
    · omega
    · simp [Value.ownBlock] at hg0
      subst hg0
      rcases hv.2 with ⟨rfl, hv0⟩ | ⟨g, cap, cur0, rfl, hb0, hg0, hn0, hc0, hs0, ht0⟩
      · have hr2 := run_append_nil (P := Try.prog) w 49 ty 80 i0 _ uPs hi0 hz0 ⟨b, 0, none⟩ 1 1 (pd [p]) (by rw [hz1]; rfl) hsrc (by omega) (by omega) (by rw [hz2]; omega)
        rw [hr2] at hr
        simp only [Result.ok.injEq, Value.slice.injEq, Option.some.injEq, Addr.mk.injEq] at hr
        exact .inr (by omega)
      · by_cases hroom : T.length + 1 ≤ cap
        · have hr2 := run_append_room (P := Try.prog) w 49 ty 80 i0 uPs hi0 g T.length cap cur0 hg0 ⟨b, 0, none⟩ 1 1 (pd [p]) (by rw [hz1]; rfl) hsrc (pd_one _) hroom (by rw [hz1, hs0]; simp only [pd_len, List.length_cons, List.length_nil]; omega)
          rw [hr2] at hr
          simp only [Result.ok.injEq, Value.slice.injEq, Option.some.injEq, Addr.mk.injEq] at hr
          exact .inl (by simp [Value.ownBlock, hr.1.1.1])
        · have hr2 := run_append_grow (P := Try.prog) w 49 ty 80 i0 _ uPs hi0 hz0 ⟨g, 0, none⟩ T.length cap (pd T) (by rw [hz1]; exact hv.1) (World.ownsRow.cells hv (g := g) rfl) ⟨b, 0, none⟩ 1 1 (pd [p]) (by rw [hz1]; rfl) hsrc (by omega) (by omega) (growslice_fits (by omega) (by rw [hz2]; omega))
          rw [hr2] at hr
          simp only [Result.ok.injEq, Value.slice.injEq, Option.some.injEq, Addr.mk.injEq] at hr
          exact .inr (by omega)

theorem step_append_run {P : Program} {ops : Array Oper} {o : Oper} {a : Act} {w : World} {K : Act → World → Prop} {Q : Exit → Act → World → Prop} {E : Prop}
    (hg : o.guard = none) (s x : Operand) (t t' : TypeId) (hop : o.op = Op.call { callee := Callee.builtin Builtin.append, args := #[s, x], argTypes := #[t, t'] }) (v u : Value) (hs : a.eval s = v) (hx : a.eval x = u) {v' : Value} {w' : World}
    (hr : (Builtin.append_ #[t, t'] o.type #[v, u]).run P w = .ok v' w') (hK : K (a.put o.dst v') w') :
    if Region.wanted o (yielded ops a.tmps) = true then Oper.wp P o a w K Q else E := by
  have hw : Region.wanted o (yielded ops a.tmps) = true := by simp [Region.wanted, hg]
  rw [if_pos hw]
  unfold Oper.wp
  simp [execOp, hop, resolve, invoke, builtin, hs, hx, hr, Result.andThen]
  exact hK

theorem erase_eq (L : List Pod) (i : Nat) : L.eraseIdx i = L.take i ++ L.drop (i + 1) := List.eraseIdx_eq_take_drop_succ ..

theorem ueP : Try.prog.underlying 49 = some (.slice (Try.prog.elem 49)) := by kernel_rfl
theorem szeP (u : World) : (sizeOf (Try.prog.elem 49)).run Try.prog u = .ok 2 u := by kernel_rfl

theorem cutP_hi (g n cap m : Nat) (i : Int) (hi : i = m) (hm : m ≤ cap) (u : World) : (Instr.sliceAt 49 (.slice (some ⟨g, 0, none⟩) n cap) none (some (.int .i64 i)) none).run Try.prog u = .ok (.slice (some ⟨g, 0, none⟩) m cap) u := by
  subst hi
  rw [run_sliceAt_slice (h := ueP), run_slice_h (ht := ueP) (h0 := by omega) (h2 := by omega), szeP]
  simp [Result.andThen, sliced, Addr.add]

theorem cutP_lo (g n cap m : Nat) (i : Int) (hi : i = m) (hm : m ≤ n) (hn : n ≤ cap) : ∃ A : Addr, (m < n → A = ⟨g, m * 2, none⟩) ∧ ∀ u : World, (Instr.sliceAt 49 (.slice (some ⟨g, 0, none⟩) n cap) (some (.int .i64 i)) none none).run Try.prog u = .ok (.slice (some A) (n - m) (cap - m)) u := by
  subst hi
  refine ⟨if cap = m then ⟨g, 0, none⟩ else ⟨g, m * 2, none⟩, fun h => by rw [if_neg (by omega)], fun u => ?_⟩
  rw [run_sliceAt_slice (h := ueP), run_slice_l (ht := ueP) (h0 := by omega) (h1 := by omega), szeP]
  simp [Result.andThen, sliced]
  split
  · rfl
  · simp [Addr.add]
    omega

theorem grown_refl (w : World) (r : Option Nat) : w.grownBy w r := ⟨rfl, rfl, rfl, Nat.le_refl _, fun _ _ _ => rfl⟩
theorem grown_row {w w' : World} {g : Nat} (h : w.grownBy w' (some g)) (cs : Array Value) : w.grownBy (w'.setRow g cs) (some g) :=
  ⟨h.os, h.tape, h.output, by simpa [World.setRow] using h.size, fun k hk hne => by
    have : g ≠ k := fun e => hne (by rw [e])
    rw [show (w'.setRow g cs).heap[k]? = w'.heap[k]? by simp [World.setRow, Array.getElem?_modify, this]]
    exact h.block k hk hne⟩

/-- append(l[:i], l[i+1:]...): the pod at i is out. -/
theorem erase_run (w : World) (ty : TypeId) (B g n cap i : Nat) (L : List Pod) (A : Addr) (hv : OwnD w B (.slice (some ⟨g, 0, none⟩) n cap) L) (hi : i < L.length) (hn : n = L.length) (hA : i + 1 < n → A = ⟨g, (i + 1) * 2, none⟩) :
    ∃ w', (Builtin.append_ #[49, 49] ty #[.slice (some ⟨g, 0, none⟩) i cap, .slice (some A) (n - (i + 1)) (cap - (i + 1))]).run Try.prog w = .ok (.slice (some ⟨g, 0, none⟩) (i + (n - (i + 1))) cap) w' ∧ OwnD w' B (.slice (some ⟨g, 0, none⟩) (i + (n - (i + 1))) cap) (L.eraseIdx i) ∧ w.grownBy w' (some g) ∧ w'.heap.size = w.heap.size := by
  obtain ⟨i0, hi0, hz0, hz1, hz2⟩ := infoPd_at
  rcases hv.2 with ⟨h0, _⟩ | ⟨g', cap', cur, h0, hbb, hg, h1, h2, h3, h4⟩
  · cases h0
  · simp only [Value.slice.injEq, Option.some.injEq, Addr.mk.injEq, and_true] at h0
    obtain ⟨rfl, -, rfl⟩ := h0
    have hcl : cur.toList.length = cap * 2 := by rw [Array.length_toList]; exact h3
    have hnl : (pd (L.drop (i + 1))).length = (n - (i + 1)) * 2 := by rw [pd_len, List.length_drop, hn]
    have hsrc : ∀ j u, (pd (L.drop (i + 1)))[j]? = some u → w.cell? (A.add j) = some u := fun j u hj => by
      have hjl := (List.getElem?_eq_some_iff.1 hj).1
      rw [hA (by omega), Addr.add_lit, cell_of_row _ _ _ _ _ _ hg]
      rw [pd_drop, List.getElem?_drop, ← h4, List.getElem?_take, if_pos (by omega)] at hj
      simpa using hj
    have hr := run_append_room (P := Try.prog) w 49 ty 80 i0 uPs hi0 g i cap cur hg A (n - (i + 1)) (cap - (i + 1)) (pd (L.drop (i + 1))) (by rw [hz1]; exact hnl) hsrc (pd_one _) (by omega) (by rw [hz1, hnl, h3]; omega)
    have hel : i + (n - (i + 1)) = (L.eraseIdx i).length := by rw [List.length_eraseIdx_of_lt hi]; omega
    refine ⟨_, hr, ?_, grown_row (grown_refl _ _) _, by simp [World.setRow]⟩
    unfold OwnD
    rw [hel]
    refine ⟨by rw [pd_len], .inr ⟨g, cap, _, rfl, hbb, by simp only [World.setRow, Array.getElem?_modify, if_true, hg, Option.map_some]; rfl, by omega, h2, ?_, ?_⟩⟩
    · simp only [List.size_toArray, List.length_append, List.length_take, List.length_drop, hcl, hz1, hnl]; omega
    · rw [hz1, erase_eq, pd_append, pd_take]
      have e1 : (cur.toList.take (i * 2)) = (pd L).take (i * 2) := by rw [← h4, List.take_take]; congr 1; omega
      rw [e1, ← erase_eq, ← hel, List.take_append_of_le_length (by simp only [List.length_append, List.length_take, pd_len, hnl]; omega)]
      rw [List.take_of_length_le (by simp only [List.length_append, List.length_take, pd_len, hnl]; omega)]

theorem filter_erase {n : ByteArray} : ∀ {L : List Pod}, (L.map Pod.nm).Nodup → ∀ {i : Nat} {p : Pod}, L[i]? = some p → p.nm = n → (L.filter fun q => !decide (q.nm = n)) = L.eraseIdx i
  | [], _, i, p, hp, _ => by simp at hp
  | q :: L, h, 0, p, hp, e => by
    rw [List.map_cons, List.nodup_cons] at h
    simp at hp
    subst hp
    have : (L.filter fun q => !decide (q.nm = n)) = L := List.filter_eq_self.2 fun r hr => by
      have : r.nm ≠ n := fun e2 => h.1 (by rw [e, ← e2]; exact List.mem_map_of_mem hr)
      simpa using this
    rw [List.filter_cons_of_neg (by simp [e]), this]
    rfl
  | q :: L, h, i + 1, p, hp, e => by
    rw [List.map_cons, List.nodup_cons] at h
    have hp2 : L[i]? = some p := by simpa using hp
    have hq : q.nm ≠ n := fun e2 => h.1 (by rw [e2, ← e]; exact List.mem_map_of_mem (List.mem_of_getElem? hp2))
    rw [List.filter_cons_of_pos (by simp [hq]), filter_erase h.2 hp2 e]
    rfl

/-- The search's steps. -/
def stp (z : Nat) (T : Nat → Bool) : Nat → Nat → Nat
  | 0, _ => 0
  | n + 1, p => if T (nx z p) then stp z T n (nx z p) + 1 else 0
theorem stp_fix {z : Nat} {T : Nat → Bool} : ∀ {n p r : Nat}, srch z T n p = some r → ∀ m, n ≤ m → stp z T m p = stp z T n p
  | 0, _, _, h, _, _ => by cases h
  | n + 1, p, r, h, 0, hm => by omega
  | n + 1, p, r, h, m + 1, hm => by
    unfold srch at h
    unfold stp
    split at h
    · rename_i ht
      rw [if_pos ht, if_pos ht, stp_fix h m (by omega)]
    · rename_i ht
      rw [if_neg ht, if_neg ht]
theorem stp_less {z : Nat} {T : Nat → Bool} {n p r : Nat} (h : srch z T (n + 1) p = some r) (ht : T (nx z p) = true) : srch z T (n + 1) (nx z p) = some r ∧ stp z T (n + 1) (nx z p) < stp z T (n + 1) p := by
  rw [srch_step ht] at h
  refine ⟨srch_more h _ (by omega), ?_⟩
  rw [stp_fix h (n + 1) (by omega)]
  conv => rhs; unfold stp
  rw [if_pos ht]
  omega
end Go.Proofs.Ytjilahbkolcekab
