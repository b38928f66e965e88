/-
  seal, framed, copied.
-/
import Derived.Test.YteoebmpfdcbbmacDoorJC
import Derived.Laws.Tables
namespace Go.Proofs.YteoebmpfdcbbmacDoor
open Go.ChangeShapes Go.WideShapes Go.ChangeAt Go.RowKit Jn
set_option maxHeartbeats 1000000
set_option maxRecDepth 100000

theorem Blk.sees {w : World} {g n : Nat} {T : TypeId} {X : List Nat} (h : Blk w g T X) (hn : n = X.length) (hm : X.length ≤ 1099511627776) (hx : ∀ x ∈ X, x < 256) : SeesB w (.slice (some ⟨g, 0, none⟩) n n) X := by
  subst hn
  refine ⟨some ⟨g, 0, none⟩, X.length, rfl, ⟨Nat.le_refl _, fun h => by cases h⟩, by unfold maxLen; omega, fun j hj => ⟨g, 0, rfl, h.lt, ?_, hx _ (List.getElem_mem hj)⟩⟩
  rw [Nat.zero_add, cell_of_row _ _ _ _ _ _ h]
  simp [bs, hj]

theorem seal_any (a b c d : Nat) (w : World) (ha : a < 4294967296) (hb : b < 4294967296) (hc : c < 4294967296) (hd : d < 4294967296) (ht : TabN w) :
    Calls Tryd.prog 69 #[.int .u32 (a : Int), .int .u32 (b : Int), .int .u32 (c : Int), .int .u32 (d : Int)] w fun e w' => e = .returned (.int .u32 ((sel a b c d : Nat) : Int)) ∧ Below w.heap.size w w' := by
  obtain ⟨w2, HW2⟩ : ∃ w2, Hid (w2 = (w.alloc (.cells #[.int .u8 0, .int .u8 0, .int .u8 0, .int .u8 0, .int .u8 0, .int .u8 0, .int .u8 0, .int .u8 0, .int .u8 0, .int .u8 0, .int .u8 0, .int .u8 0, .int .u8 0, .int .u8 0, .int .u8 0, .int .u8 0] 121)).alloc (.cells #[.int .u32 (a : Int), .int .u32 (b : Int), .int .u32 (c : Int), .int .u32 (d : Int)] 67)) := ⟨_, rfl⟩
  have HB2 : Hid (Below w.heap.size w w2) := by
    unfold Hid; rw [HW2.out]
    exact ((Below.refl _ _).alloc (Nat.le_refl _) _).alloc (by simp) _
  have hX : Blk w2 w.heap.size 121 (List.replicate 16 0) := by
    have h1 : Below (w.heap.size + 1) (w.alloc (.cells #[.int .u8 0, .int .u8 0, .int .u8 0, .int .u8 0, .int .u8 0, .int .u8 0, .int .u8 0, .int .u8 0, .int .u8 0, .int .u8 0, .int .u8 0, .int .u8 0, .int .u8 0, .int .u8 0, .int .u8 0, .int .u8 0] 121)) w2 := by
      rw [HW2.out]; exact (Below.refl _ _).alloc (by simp) _
    unfold Blk
    rw [h1.block _ (by omega)]
    exact heap_alloc_new w _
  have hN : w2.heap[w.heap.size + 1]? = some (.cells (u32s [a, b, c, d]).toArray 67 (0, 0)) := by
    rw [HW2.out]
    have := heap_alloc_new (w.alloc (.cells #[.int .u8 0, .int .u8 0, .int .u8 0, .int .u8 0, .int .u8 0, .int .u8 0, .int .u8 0, .int .u8 0, .int .u8 0, .int .u8 0, .int .u8 0, .int .u8 0, .int .u8 0, .int .u8 0, .int .u8 0, .int .u8 0] 121)) (.cells #[.int .u32 (a : Int), .int .u32 (b : Int), .int .u32 (c : Int), .int .u32 (d : Int)] 67)
    rw [World.size_alloc] at this
    exact this
  have H1 := hid (putWords_any w.heap.size 0 16 16 (w.heap.size + 1) 4 _ _ _ [a, b, c, d] w2 hX hN rfl (by omega) (by simp) (Nat.le_refl _) (by decide) (by simp) (by intro x hx; simp at hx; omega))
  have HE : Hid (puts4 (List.replicate 16 0) 0 [a, b, c, d] = w4 a ++ w4 b ++ w4 c ++ w4 d) := by
    unfold Hid; rw [puts4_eq _ _ _ (by simp)]; simp
  have HT : Hid (TabN w2) := ht.below HB2.out ht.2
  have h0 := ht.2
  clear hX hN ht
  go_enter Tryd.func69, Tryd.ntmps69
  go_wp2_with fail
  rw [← HW2.out]
  refine H1.out.mono ?_
  rintro _ w3 ⟨rfl, hb3, hk3⟩
  rw [HE.out] at hb3
  have HB3 : Hid (Below w.heap.size w w3) := hk3.below HB2.out HB2.out.size (fun k hk e => by unfold At1 at e; omega)
  have HT3 : TabN w3 := HT.out.below (B := w.heap.size) (hk3.below (Below.refl _ _) HB2.out.size (fun k hk e => by unfold At1 at e; omega)) h0
  have HS3 : SeesB w3 (.slice (some ⟨w.heap.size, 0, none⟩) 16 16) (w4 a ++ w4 b ++ w4 c ++ w4 d) := hb3.sees rfl (by simp [w4_len]) (by
    intro x hx
    simp only [List.mem_append] at hx
    rcases hx with ((hx | hx) | hx) | hx <;> exact w4_lt _ x hx)
  have H2 := hid (sumOf_any _ _ w3 HS3 HT3)
  clear hb3 hk3 HT3 HS3
  go_wp2_with fail
  refine H2.out.mono ?_
  rintro _ w4 ⟨rfl, rfl⟩
  go_wp2_with fail
  go_ret
  exact ⟨rfl, HB3.out⟩

theorem framed_any (v : Value) (L : List Nat) (w : World) (hv : SeesB w v L) (hl : L.length ≤ 281474976710656) :
    Calls Tryd.prog 49 #[v] w fun e w' => e = .returned (.int .i64 ((12 + L.length : Nat) : Int)) ∧ w' = w := by
  obtain ⟨ao, n, cap, rfl, HN, hn1, hn2⟩ := hv.shape
  unfold maxLen at hn2
  have hn : n ≤ 281474976710656 := by have := HN.out; omega
  rw [← HN.out]
  clear hv hl
  go_enter Tryd.func49, Tryd.ntmps49
  go_wp2_with fail
  go_ret
  exact ⟨ret_int (by omega), rfl⟩

theorem made_zeros (k : Nat) : madeCells #[.int .u8 0] k = (bs (List.replicate k 0)).toArray := by
  unfold madeCells bs
  apply Array.ext
  · simp
  · intro i h1 h2
    simp [Nat.mod_one]

theorem make_bytes (k : Nat) (hk : k ≤ 1099511627776) (u : World) : (Instr.makeSlice 22 (.int .i64 (k : Int)) (.int .i64 (k : Int))).run Tryd.prog u = .ok (.slice (some ⟨u.heap.size, 0, none⟩) k k) (u.alloc (.cells (bs (List.replicate k 0)).toArray 5)) := by
  obtain ⟨i0, hi0, hz0, hz1, hz2⟩ := info_parts Tryd.info5
  have := run_make (P := Tryd.prog) u 22 5 i0 (.int .u8 0) Tryd.underlying22 hi0 hz0 .i64 .i64 (k : Int) (k : Int) (by omega) (by omega) (by rw [hz2]; simp; omega) (by omega)
  rw [hz1] at this
  rw [← made_zeros]
  simpa [Value.cells] using this

theorem run_copyK {P : Program} (w : World) (dT sT ty elem : TypeId) (k g o dLen dCap : Nat) (a : Addr) (sLen sCap : Nat) (cur : Array Value) (t : TypeId) (cs : List Value)
    (hu : P.underlying dT = some (.slice elem)) (hs : ∀ u, (sizeOf elem).run P u = .ok k u)
    (hg : w.heap[g]? = some (.cells cur t (0, 0))) (hn : cs.length = Nat.min sLen dLen * k)
    (hsrc : ∀ j v, cs[j]? = some v → w.cell? (a.add j) = some v) (hfit : o + cs.length ≤ cur.size) (h1 : ∀ v ∈ cs, v.oneCell' = true) :
    (Builtin.copy_ #[dT, sT] ty #[.slice (some ⟨g, o, none⟩) dLen dCap, .slice (some a) sLen sCap]).run P w =
      .ok (goInt (Nat.min sLen dLen)) (w.setRow g (cur.toList.take o ++ cs ++ cur.toList.drop (o + cs.length)).toArray) := by
  have hf := run_firstCells_some (P := P) w k (Nat.min sLen dLen) a sLen sCap cs hn hsrc
  have hst := run_storeCells_at P g o t cs 0 cur w hg (by simpa using hfit) h1
  simp only [Nat.add_zero] at hst
  simp [Builtin.copy_, run_underlying hu, Builtin.lenOf, hs, hf, hst]

theorem run_copy0 {P : Program} (w : World) (dT sT ty elem : TypeId) (k : Nat) (d : Option Addr) (dLen dCap sCap : Nat)
    (hu : P.underlying dT = some (.slice elem)) (hs : ∀ u, (sizeOf elem).run P u = .ok k u) :
    (Builtin.copy_ #[dT, sT] ty #[.slice d dLen dCap, .slice none 0 sCap]).run P w = .ok (goInt 0) w := by
  have hf := run_firstCells_none (P := P) w k 0 0 sCap
  cases d <;> simp [Builtin.copy_, run_underlying hu, Builtin.lenOf, hs, hf, storeCells]

/-- Bytes are copied into a block. -/
theorem copy_blk (u : World) (ty T : TypeId) (g o dl dc : Nat) (X P : List Nat) (pa : Option Addr) (pn pc : Nat) (hB : Blk u g T X) (hP : SeesB u (.slice pa pn pc) P) (hdl : P.length ≤ dl) (hfit : o + P.length ≤ X.length) :
    ∃ u', (Builtin.copy_ #[22, 22] ty #[.slice (some ⟨g, o, none⟩) dl dc, .slice pa pn pc]).run Tryd.prog u = .ok (.int .i64 (P.length : Int)) u' ∧ Blk u' g T (splice X o P) ∧ Keeps (At1 g) u u' := by
  have hs : ∀ u : World, (sizeOf 5).run Tryd.prog u = .ok 1 u := fun u => by kernel_rfl
  obtain ⟨ao, cap, hv, h1, h2, h3⟩ := hP
  simp only [Value.slice.injEq] at hv
  obtain ⟨rfl, rfl, rfl⟩ := hv
  cases pa with
  | none =>
    have hL : P = [] := by
      cases P with
      | nil => rfl
      | cons y L => obtain ⟨_, _, hc, _⟩ := h3 0 (by simp); cases hc
    subst hL
    refine ⟨u, run_copy0 (P := Tryd.prog) u _ _ ty 5 1 _ dl dc pc Tryd.underlying22 hs, ?_, Keeps.refl _ _⟩
    rw [show splice X o [] = X by simp [splice]]
    exact hB
  | some ad =>
    have hmin : Nat.min P.length dl = P.length := Nat.min_eq_left hdl
    have hr := run_copyK (P := Tryd.prog) u 22 22 ty 5 1 g o dl dc ad P.length pc (bs X).toArray T (bs P) Tryd.underlying22 hs hB (by simp [bs, hmin]) (by
      intro j v hj
      have hjl : j < P.length := by have := (List.getElem?_eq_some_iff.1 hj).1; simpa [bs] using this
      obtain ⟨g', off', hc, hg, hcell, _⟩ := h3 j hjl
      simp only [Option.some.injEq] at hc; subst hc
      rw [Addr.add_mid, hcell]
      simp [bs, hjl] at hj
      rw [hj]) (by simpa [bs] using hfit) (fun v hv => by obtain ⟨y, _, rfl⟩ := List.mem_map.1 hv; rfl)
    rw [hmin] at hr
    refine ⟨_, hr, ?_, ⟨rfl, rfl, rfl, by simp, fun k _ hk => setRow_other u g k _ hk⟩⟩
    unfold Blk
    rw [setRow_heap u g _ _ T _ hB]
    congr 2
    simp [bs, splice, List.map_take, List.map_drop]

theorem copied_any (v : Value) (L : List Nat) (w : World) (hv : SeesB w v L) (hl : L.length ≤ 1099511627776) :
    Calls Tryd.prog 62 #[v] w fun e w' => ∃ g : Nat, e = .returned (.slice (some ⟨g, 0, none⟩) L.length L.length) ∧ w.heap.size ≤ g ∧ Blk w' g 5 L ∧ Below w.heap.size w w' := by
  obtain ⟨ao, n, cap, rfl, HN, hn1, hn2⟩ := hv.shape
  unfold maxLen at hn2
  have hn : n ≤ 1099511627776 := by have := HN.out; omega
  have hmk := make_bytes n hn w
  obtain ⟨w1, HW1⟩ : ∃ w1, Hid (w1 = w.alloc (.cells (bs (List.replicate n 0)).toArray 5)) := ⟨_, rfl⟩
  have hB1 : Below w.heap.size w w1 := by rw [HW1.out]; exact (Below.refl _ _).alloc (Nat.le_refl _) _
  have hX : Blk w1 w.heap.size 5 (List.replicate n 0) := by rw [HW1.out]; exact heap_alloc_new w _
  rw [← HW1.out] at hmk
  obtain ⟨w2, hr, hb2, hk2⟩ := copy_blk w1 3 5 w.heap.size 0 n n _ L ao n cap hX (hv.below hB1) (by have := HN.out; omega) (by have := HN.out; simp; omega)
  have HB2 : Hid (Below w.heap.size w w2) := hk2.below hB1 hB1.size (fun k hk e => by unfold At1 at e; omega)
  have HX2 : Hid (Blk w2 w.heap.size 5 L) := by
    have : splice (List.replicate n 0) 0 L = L := by simp [splice]; have := HN.out; omega
    rw [this] at hb2
    exact hb2
  clear hX hb2 hk2 hv hB1 hl
  rw [← HN.out] at hr ⊢
  go_enter Tryd.func62, Tryd.ntmps62
  go_wp2_with fail
  go_ret
  exact ⟨w.heap.size, rfl, Nat.le_refl _, HX2.out, HB2.out⟩
end Go.Proofs.YteoebmpfdcbbmacDoor
