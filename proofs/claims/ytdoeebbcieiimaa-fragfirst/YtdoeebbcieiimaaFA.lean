/-
  Blocks of packets that are written whole; new lists of bytes, new headers, new packets.
-/
import Derived.Test.YtdoeebbcieiimaaFM
import Derived.Test.YtdoeebbcieiimaaBE
import Derived.Laws.Tables
namespace Go.Proofs.Ytdoeebbcieiimaa
open Go.ChangeShapes Go.WideShapes Go.ChangeAt Go.RowKit
set_option maxHeartbeats 1000000
set_option maxRecDepth 100000

theorem But.setRow (g : Nat) (w : World) (cs : Array Value) : But g w (w.setRow g cs) := ⟨rfl, rfl, rfl, by simp [World.setRow], fun j _ hn => by simp [World.setRow, Array.getElem?_modify, Ne.symm hn]⟩

/-- A struct goes whole into its block. -/
theorem wpList_st {ops : Array Oper} {rest : List Oper} {o : Oper} {a : Act} {w : World} {Q : Exit → Act → World → Prop} (hgd : o.guard = none) (T : TypeId) (x y : Operand) (ho : o.op = .store T x y)
    (g : Nat) (cells : Array Value) (hx : a.eval x = .pointer (some ⟨g, 0, none⟩)) (hy : a.eval y = .agg cells)
    (t : TypeId) (old : Array Value) (hg : w.heap[g]? = some (.cells old t (0, 0))) (hi : (Try.prog.info? T).map (·.size) = some cells.size)
    (hold : old.size = cells.size) (h1 : cells.all (·.oneCell') = true)
    (h : ∀ w', w'.heap[g]? = some (.cells cells t (0, 0)) → But g w w' → wpList Try.prog ops Q rest (a.put o.dst undef) w') : wpList Try.prog ops Q (o :: rest) a w :=
  wpList_store_row hgd T x y ho g cells hx hy t old hg hi hold h1 (h _ (setRow_heap w g _ _ t _ hg) (But.setRow g w cells))

/-- One cell of a struct is written. -/
theorem run_storeVar_cell (w : World) (b o : Nat) (ty : TypeId) (v : Value) (cs : Array Value) (t : TypeId) (hb : w.heap[b]? = some (.cells cs t (0, 0))) (ho : o < cs.size) (hi : (Try.prog.info? ty).map (·.size) = some 1) (h1 : v.oneCell' = true) :
    (storeVar ty ⟨b, o, none⟩ v).run Try.prog w = .ok () (w.setCell ⟨b, o, none⟩ v) := by
  have := run_storeCells_cells (P := Try.prog) b o [v] 0 w (fun j hj => by
      have : j = 0 := by simpa using hj
      subst this
      rw [cell_of_row w _ _ _ _ _ hb]; simp [ho]) (fun j hj => frozen_of_row _ _ _ _ _ hb) (fun x hx => by simp at hx; subst hx; exact h1)
  have hc : v.cells = #[v] := by cases v <;> first | rfl | cases h1
  cases hq : Try.prog.info? ty with
  | none => simp [hq] at hi
  | some i =>
    have hs : i.size = 1 := by simpa [hq] using hi
    simp only [Nat.add_zero] at this
    simp [storeVar, sizeOf, typeInfo, hq, hc, hs, this, World.setCells]

theorem set_row {w : World} {b i : Nat} {cs : Array Value} {v : Value} {t : TypeId} (h : w.heap[b]? = some (.cells cs t (0, 0))) : (w.setCell ⟨b, i, none⟩ v).heap[b]? = some (.cells (cs.setIfInBounds i v) t (0, 0)) := by
  simp [World.setCell, Array.getElem?_modify, h]

theorem wpList_st1 {ops : Array Oper} {rest : List Oper} {o : Oper} {a : Act} {w : World} {Q : Exit → Act → World → Prop} (hgd : o.guard = none) (T : TypeId) (x y : Operand) (ho : o.op = .store T x y)
    (g i : Nat) (v : Value) (hx : a.eval x = .pointer (some ⟨g, i, none⟩)) (hy : a.eval y = v) (h1 : v.oneCell' = true)
    (t : TypeId) (cs cs' : Array Value) (hg : w.heap[g]? = some (.cells cs t (0, 0))) (hi : (Try.prog.info? T).map (·.size) = some 1)
    (hlt : i < cs.size) (hcs : cs.setIfInBounds i v = cs')
    (h : ∀ w', w'.heap[g]? = some (.cells cs' t (0, 0)) → But g w w' → wpList Try.prog ops Q rest (a.put o.dst undef) w') : wpList Try.prog ops Q (o :: rest) a w :=
  wpList_plain hgd fun _ hK => by
    unfold Oper.wp execOp
    simp only [ho, hx, hy, Instr.storeAt, Instr.sureAddr, Sem.run_bind, Sem.run_pure, Result.andThen_ok, run_storeVar_cell w g i T v cs t hg hlt hi h1]
    exact hK _ _ (h _ (by rw [set_row hg, hcs]) (But.set g i w v))

theorem own_blk {w : World} {g n base : Nat} {L : List Nat} (h : w.heap[g]? = some (.cells (bs L).toArray 5 (0, 0))) (hn : n = L.length) (hb : base ≤ g) (hm : n ≤ 1099511627776) : OwnB w base (.slice (some ⟨g, 0, none⟩) n n) L := by
  subst hn
  refine ⟨by simp [bs], .inr ⟨g, L.length, _, rfl, hb, h, Nat.le_refl _, by unfold maxLen; omega, by simp [bs], ?_⟩⟩
  rw [Nat.mul_one, List.take_of_length_le (by simp [bs])]

theorem OwnB.shape {w : World} {base : Nat} {v : Value} {L : List Nat} (h : OwnB w base v L) : ∃ ao cap, v = .slice ao L.length cap := by
  rcases h.2 with ⟨rfl, hn⟩ | ⟨g, cap, cur, rfl, _⟩
  · exact ⟨_, _, by rw [hn]⟩
  · exact ⟨_, _, rfl⟩

/-- freshBytes of the program, copied of the reference: the same bytes, new memory. -/
theorem freshBytes_any (v : Value) (L : List Nat) (w : World) (hv : SeesB w v L) (hl : L.length ≤ 1099511627776) :
    Calls Try.prog 63 #[v] w fun e w' => ∃ v', e = .returned v' ∧ OwnB w' w.heap.size v' L ∧ Below w.heap.size w w' := by
  obtain ⟨ao, n, cap, rfl, HN, hn1, hn2⟩ := hv.shape
  have HV := hid hv
  have hnl : n ≤ 1099511627776 := by have := HN.out; omega
  have hmk := make_bytes n hnl w
  unfold maxLen at hn2
  clear hv hl
  go_enter Try.func63, Try.ntmps63
  go_wp2_with (first | (refine wpList_copy_splice rfl (.tmp 7) (.tmp 8) 22 22 rfl 5 Try.underlying22 size5 _ _ n n n cap rfl rfl w.heap.size 0 (madeCells #[.int .u8 0] n).toList 5 ?c1 (bs L) ?c2 ?c3 ?c4 ?c5 w.heap.size w ?c6 ?c7 ?_) | fail)
  case c1 => rw [Array.toArray_toList]; exact heap_alloc_new w _
  case c2 => show (bs _).length = min n n; rw [Nat.min_self, bs, List.length_map]; exact HN.out.symm
  case c3 => exact fun hp => (HV.out.below ((Below.refl w.heap.size w).alloc (Nat.le_refl _) _)).src hp
  case c4 => rw [bs, List.length_map, ← HN.out, Array.length_toList, size_madeCells]; simp
  case c5 => intro q hq; obtain ⟨y, _, rfl⟩ := List.mem_map.1 hq; rfl
  case c6 => exact (Below.refl _ _).alloc (Nat.le_refl _) _
  case c7 => exact Nat.le_refl _
  intro w3 HG hb3
  rw [splice_whole (by rw [bs, List.length_map, ← HN.out, Array.length_toList, size_madeCells])] at HG
  have HB3 := hid hb3
  clear hmk hb3
  go_wp2_with fail
  go_ret
  exact ⟨_, rfl, own_blk HG.out HN.out (Nat.le_refl _) hnl, HB3.out⟩

theorem rcopied_any (v : Value) (L : List Nat) (w : World) (hv : SeesB w v L) (hl : L.length ≤ 1099511627776) :
    Calls Try.prog 76 #[v] w fun e w' => ∃ v', e = .returned v' ∧ OwnB w' w.heap.size v' L ∧ Below w.heap.size w w' := by
  obtain ⟨ao, n, cap, rfl, HN, hn1, hn2⟩ := hv.shape
  have HV := hid hv
  have hnl : n ≤ 1099511627776 := by have := HN.out; omega
  have hmk := make_bytes n hnl w
  unfold maxLen at hn2
  clear hv hl
  go_enter Try.func76, Try.ntmps76
  go_wp2_with (first | (refine wpList_copy_splice rfl (.tmp 7) (.tmp 8) 22 22 rfl 5 Try.underlying22 size5 _ _ n n n cap rfl rfl w.heap.size 0 (madeCells #[.int .u8 0] n).toList 5 ?c1 (bs L) ?c2 ?c3 ?c4 ?c5 w.heap.size w ?c6 ?c7 ?_) | fail)
  case c1 => rw [Array.toArray_toList]; exact heap_alloc_new w _
  case c2 => show (bs _).length = min n n; rw [Nat.min_self, bs, List.length_map]; exact HN.out.symm
  case c3 => exact fun hp => (HV.out.below ((Below.refl w.heap.size w).alloc (Nat.le_refl _) _)).src hp
  case c4 => rw [bs, List.length_map, ← HN.out, Array.length_toList, size_madeCells]; simp
  case c5 => intro q hq; obtain ⟨y, _, rfl⟩ := List.mem_map.1 hq; rfl
  case c6 => exact (Below.refl _ _).alloc (Nat.le_refl _) _
  case c7 => exact Nat.le_refl _
  intro w3 HG hb3
  rw [splice_whole (by rw [bs, List.length_map, ← HN.out, Array.length_toList, size_madeCells])] at HG
  have HB3 := hid hb3
  clear hmk hb3
  go_wp2_with fail
  go_ret
  exact ⟨_, rfl, own_blk HG.out HN.out (Nat.le_refl _) hnl, HB3.out⟩
end Go.Proofs.Ytdoeebbcieiimaa
