/-
  told of an empty trie; what was put and is taken out.
-/
import Derived.Test.YtmnafocmbcgdiabXE
import Derived.Test.YtmnafocmbcgdiabXI
import Derived.Test.YtmnafocmbcgdiabVV
import Derived.Test.YtmnafocmbcgdiabWP
namespace Go.Proofs.Ytmnafocmbcgdiab
open Go.ChangeShapes Go.WideShapes Go.ChangeAt Go.RowKit Go.Shelf Tri N
attribute [local go_sem] Oper.semAt_some
set_option maxHeartbeats 4000000
set_option maxRecDepth 100000

theorem eq_seqA (f : FuncId) (a b : Array Value) (u : World) : (binOp .eql 55 (.func (.func f) a b) .nilFunc).run Try.prog u = .ok (.bool false) u := by
  kernel_rfl

theorem told_empty {tb : Nat} (w : World) (hT : TrieAt w (fun b => b = tb) tb .nil) :
    Calls Try.prog 14 #[.pointer (some ⟨tb, 0, none⟩)] w fun e w' => e = .returned (.tuple #[.slice none 0 0, .slice none 0 0]) ∧ Below w.heap.size w w' := by
  obtain ⟨_, _, ⟨m, hrow, hmt, hL⟩, hwf⟩ := hT
  obtain ⟨w1, HW1⟩ : ∃ w1, Hid (w1 = (w.alloc (.cells #[.slice none 0 0] 22)).alloc (.cells #[.slice none 0 0] 35)) := ⟨_, rfl⟩
  have hb1 : Below w.heap.size w w1 := by rw [HW1.out]; exact ((Below.refl _ _).alloc (Nat.le_refl _) _).alloc (by simp) _
  have r4 : w1.heap[w.heap.size]? = some (.cells #[.slice none 0 0] 22) := by rw [HW1.out, Below.heap_alloc _ _ _ (by simp)]; exact heap_alloc_new w _
  have r5 : w1.heap[w.heap.size + 1]? = some (.cells #[.slice none 0 0] 35) := by
    have h := heap_alloc_new (w.alloc (.cells #[.slice none 0 0] 22)) (.cells #[.slice none 0 0] 35)
    rw [World.size_alloc] at h
    rw [HW1.out]; exact h
  obtain ⟨w2, HW2⟩ : ∃ w2, Hid (w2 = (w1.alloc (.cells #[.pointer (some ⟨tb, 0, none⟩)] 24)).alloc (.cells #[.int .u32 ((0 : Nat) : Int), .int .i64 0] 31)) := ⟨_, rfl⟩
  have hb2 : Below w1.heap.size w1 w2 := by rw [HW2.out]; exact ((Below.refl _ _).alloc (Nat.le_refl _) _).alloc (by simp) _
  have ht2 : w2.heap[w1.heap.size]? = some (.cells #[.pointer (some ⟨tb, 0, none⟩)] 24) := by rw [HW2.out, Below.heap_alloc _ _ _ (by simp)]; exact heap_alloc_new w1 _
  have hp2 : w2.heap[w1.heap.size + 1]? = some (.cells #[.int .u32 ((0 : Nat) : Int), .int .i64 0] 31) := by
    have h := heap_alloc_new (w1.alloc (.cells #[.pointer (some ⟨tb, 0, none⟩)] 24)) (.cells #[.int .u32 ((0 : Nat) : Int), .int .i64 0] 31)
    rw [World.size_alloc] at h
    rw [HW2.out]; exact h
  have hb02 : Below w.heap.size w w2 := hb1.trans (hb2.mono hb1.size)
  have HSQ2 : Hid (SeqB w2 (fun b => b = tb) (w1.heap.size + 1) w1.heap.size tb 0 0 m) := ⟨hL.below hb02, hp2, ht2, below_keeps hb02 hrow (Array.getElem?_eq_some_iff.1 hrow).1⟩
  have HA1 := hid (all_new (tb := tb) w1)
  rw [← HW2.out] at HA1
  have HWF : Hid (WF top.x (top.x + top.s) m.tr) := by unfold Hid; rw [hmt]; exact hwf
  have HNM : Hid (nodes m.tr ≤ 10000000000) := by unfold Hid; rw [hmt]; exact Nat.zero_le _
  have HXS : Hid (entsIn (ents m.tr) 0 0 = []) := by unfold Hid; rw [entsIn_all HWF.out, hmt]; rfl
  have R4 := hid (below_keeps hb2 r4 (Array.getElem?_eq_some_iff.1 r4).1)
  have R5 := hid (below_keeps hb2 r5 (Array.getElem?_eq_some_iff.1 r5).1)
  have HB02 := hid hb02
  have hqf := eq_seqA 41 #[] #[.pointer (some ⟨w1.heap.size + 1, 0, none⟩), .pointer (some ⟨w1.heap.size, 0, none⟩)]
  clear hrow hL hwf hmt hb1 r4 r5 hb2 ht2 hp2 hb02
  refine (callsIn_wide (n := 9)).1 ?_
  refine callsIn_of_wp_marks Try.func14 rfl trivial ?_ rfl
  refine wpIn_wide.2 ?_
  simp only [Try.ntmps14, List.size_toArray, List.length_cons, List.length_nil, Nat.reduceAdd, Nat.reduceSub, Array.replicate_succ, Array.replicate_zero, List.push_toArray, List.append_toArray, List.nil_append, List.cons_append]
  go_upto_region 3 with fail
  rw [← HW1.out]
  go_wp2_with fail
  refine HA1.out.mono ?_
  rintro _ _ ⟨rfl, ew⟩
  obtain rfl := ew.symm
  go_wp2_with fail
  have hseq := seq_gives 8 (by omega) (fun b => b = tb) (w1.heap.size + 1) w1.heap.size tb 0 0 m (by omega) HWF.out HNM.out
  rw [HXS.out] at hseq
  refine wpIn_wide.1 (wpIn_givesU (β := Unit) (n := 9) (F := Fence.wide) rfl (by omega) (gf := 41) (lb := #[.pointer (some ⟨w1.heap.size + 1, 0, none⟩), .pointer (some ⟨w1.heap.size, 0, none⟩)]) rfl trivial (enters_of Try.func41 (by kernel_rfl) rfl)
    hseq (fun _ => rfl) (fun _ W => w2.heap.size ≤ W.heap.size ∧ Below w2.heap.size w2 W) (fun _ _ => False) ?hI ?hIx ?hF ?h0 (fun _ _ t => t) (fun _ _ _ => True) (fun _ _ _ _ _ _ _ _ _ => trivial) ?assign ?body ?done ?stop)
  case hI =>
    refine ownN_below (fun i W hi => hi.1) ?_
    rintro i W W' ⟨i1, i2⟩ hb
    exact ⟨Nat.le_trans i1 hb.size, i2.trans hb⟩
  case hIx =>
    rintro c W W' row h hg hr
    exact h.elim
  case hF =>
    rintro i W ⟨i1, i2⟩
    exact HSQ2.out.below i2
  case h0 => exact ⟨Nat.le_refl _, Below.refl _ _⟩
  case assign =>
    intro l i e W K hi hx hK
    cases hx
  case body =>
    rintro l i e y W hl _ hi _ hx
    cases hx
  case done =>
    rintro D W hD ⟨i1, i2⟩ hK
    have k4 := below_keeps i2 R4.out (Array.getElem?_eq_some_iff.1 R4.out).1
    have k5 := below_keeps i2 R5.out (Array.getElem?_eq_some_iff.1 R5.out).1
    have c4 : W.cell? ⟨w.heap.size, 0, none⟩ = some (.slice none 0 0) := by rw [cell_of_row _ _ _ _ _ _ k4]; rfl
    have c5 : W.cell? ⟨w.heap.size + 1, 0, none⟩ = some (.slice none 0 0) := by rw [cell_of_row _ _ _ _ _ _ k5]; rfl
    have HKD := hid hK
    have HDD : Hid (w.heap.size ≤ D) := Nat.le_trans HB02.out.size hD
    have HBF : Hid (Below w.heap.size w W.drew) := by
      have h := HB02.out.trans (i2.mono HB02.out.size)
      exact ⟨h.os, h.tape, h.output, h.size, h.block⟩
    clear k4 k5 i1 i2 hK hD
    go_upto_region 12 with fail
    go_region
    all_goals (
      go_wp2_with fail
      have hKz : W.drew.heap[D]? = some (.deferred (some [])) := HKD.out
      have hbf : Below w.heap.size w (W.drew.putObj D (.deferred none)) := HBF.out.trans (belowK_b (w := w) (Nat.le_refl _) W.drew D _ _ HDD.out hKz rfl rfl)
      refine ⟨by simp, .inl ⟨_, _, rfl, run_takeDeferred hKz, ?_⟩⟩
      exact ⟨_, (by simp [results, Try.results14, go_sem]), rfl, hbf⟩)
  case stop =>
    rintro D c W hD h hK
    exact h.elim

/-- What is held behind j puts. -/
def PutI (L : List K) (j : Nat) (t : Tr) : Prop := ∀ e, e ∈ ents t ↔ (lastTo L e.1 j ≠ -1 ∧ e.2 = lastTo L e.1 j + 7)
/-- What is held behind all puts and i deletes. -/
def DelI (L : List K) (i : Nat) (t : Tr) : Prop := ∀ e, e ∈ ents t ↔ (lastTo L e.1 L.length ≠ -1 ∧ e.2 = lastTo L e.1 L.length + 7 ∧ lastTo L e.1 i = -1)

theorem lastTo_succ (L : List K) {j : Nat} {k : K} (hk : L[j]? = some k) (q : K) : lastTo L q (j + 1) = if k = q then (j : Int) else lastTo L q j := by
  show (if L[j]? = some q then (j : Int) else lastTo L q j) = _
  rw [hk]
  simp

theorem PutI.step {L : List K} {j : Nat} {t : Tr} (h : PutI L j t) (hW : WF top.x (top.x + top.s) t) {k : K} (hk : L[j]? = some k) (hok : k.Ok) : PutI L (j + 1) (hang t k (some ((j : Int) + 7))) := by
  intro e
  rw [(hang_facts top_ok hW hok hok.top).2 e, lastTo_succ L hk, h e]
  by_cases he : k = e.1
  · rw [if_pos he]
    constructor
    · rintro (⟨_, h2⟩ | ⟨h1, _⟩)
      · exact ⟨by omega, (Option.some.inj h2).symm⟩
      · exact absurd he.symm h1
    · rintro ⟨_, h2⟩
      exact .inl ⟨he.symm, by rw [h2]⟩
  · rw [if_neg he]
    constructor
    · rintro (⟨h1, _⟩ | ⟨_, h2⟩)
      · exact absurd h1.symm he
      · exact h2
    · intro h2
      exact .inr ⟨fun h1 => he h1.symm, h2⟩

theorem PutI.del {L : List K} {t : Tr} (h : PutI L L.length t) : DelI L 0 t := fun e => by
  rw [h e]
  exact ⟨fun ⟨a, b⟩ => ⟨a, b, rfl⟩, fun ⟨a, b, _⟩ => ⟨a, b⟩⟩

theorem DelI.look {L : List K} {i : Nat} {t : Tr} (h : DelI L i t) (hW : WF top.x (top.x + top.s) t) {k : K} (hk : L[i]? = some k) :
    (lastTo L k i = -1 ∧ lookT t k = some (lastTo L k L.length + 7)) ∨ (lastTo L k i ≠ -1 ∧ lookT t k = none) := by
  have hn := lastTo_of (List.getElem?_eq_some_iff.1 hk).1 hk
  by_cases hl : lastTo L k i = -1
  · exact .inl ⟨hl, lookT_of hW ((h (k, lastTo L k L.length + 7)).2 ⟨hn, rfl, hl⟩)⟩
  · refine .inr ⟨hl, ?_⟩
    cases hq : lookT t k with
    | none => rfl
    | some v => exact absurd ((h (k, v)).1 (lookT_mem hq)).2.2 hl

theorem DelI.step {L : List K} {i : Nat} {t : Tr} (h : DelI L i t) (hW : WF top.x (top.x + top.s) t) {k : K} (hk : L[i]? = some k) (hok : k.Ok) : DelI L (i + 1) (delT t k) := by
  intro e
  rw [lastTo_succ L hk]
  have key : e ∈ ents (delT t k) ↔ (e.1 ≠ k ∧ e ∈ ents t) := by
    unfold delT
    cases hq : lookT t k with
    | some v =>
      show e ∈ ents (hang t k none) ↔ _
      rw [(hang_facts top_ok hW hok hok.top).2 e]
      constructor
      · rintro (⟨_, h2⟩ | h2)
        · cases h2
        · exact h2
      · intro h2; exact .inr h2
    | none =>
      constructor
      · intro he
        refine ⟨fun hk' => ?_, he⟩
        obtain ⟨a, b⟩ := e
        simp only at hk'
        subst hk'
        rw [lookT_of hW he] at hq
        cases hq
      · exact fun h2 => h2.2
  rw [key, h e]
  by_cases he : k = e.1
  · rw [if_pos he]
    constructor
    · rintro ⟨h1, _⟩; exact absurd he.symm h1
    · rintro ⟨_, _, h3⟩; omega
  · rw [if_neg he]
    exact ⟨fun ⟨_, h2⟩ => h2, fun h2 => ⟨fun h1 => he h1.symm, h2⟩⟩

theorem DelI.all {L : List K} {t : Tr} (h : DelI L L.length t) (hW : WF top.x (top.x + top.s) t) : t = .nil := by
  cases t with
  | nil => rfl
  | node k u l r =>
    obtain ⟨e, he⟩ := some_ent hW (by simp)
    obtain ⟨h1, _, h3⟩ := (h e).1 he
    exact absurd h3 h1

theorem Sees.cut {w : World} {ao : Option Addr} {n cap : Nat} {L : List K} (h : Sees w (.slice ao n cap) (L.map kp)) {i : Nat} (hi : i ≤ n) : Sees w (.slice ao i cap) ((L.take i).map kp) := by
  obtain ⟨ao', cap', hv, h1, h2, h3⟩ := h
  simp only [Value.slice.injEq] at hv
  obtain ⟨rfl, hl, rfl⟩ := hv
  rw [List.length_map] at hl h1
  refine ⟨ao, cap, by rw [List.length_map, List.length_take]; congr 1; omega, by rw [List.length_map, List.length_take]; omega, h2, fun j hj => ?_⟩
  rw [List.length_map, List.length_take] at hj
  have := h3 j (by rw [List.length_map]; omega)
  simpa [List.getElem_take] using this

theorem lastTo_take (L : List K) (p : K) (i n : Nat) (h : n ≤ i) : lastTo (L.take i) p n = lastTo L p n := by
  induction n with
  | zero => rfl
  | succ n ih =>
    show (if (L.take i)[n]? = some p then (n : Int) else lastTo (L.take i) p n) = if L[n]? = some p then (n : Int) else lastTo L p n
    rw [List.getElem?_take_of_lt (by omega), ih (by omega)]
end Go.Proofs.Ytmnafocmbcgdiab
