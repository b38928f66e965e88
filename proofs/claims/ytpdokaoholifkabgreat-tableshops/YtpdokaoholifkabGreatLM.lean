import Derived.Test.YtpdokaoholifkabGreatLL
namespace Go.Proofs.YtpdokaoholifkabGreat.Rt
open Go.Proofs.YtpdokaoholifkabGreat Go.ChangeShapes Go.WideShapes Go.ChangeAt Go.RowKit Go.Maps Tri N
set_option maxHeartbeats 8000000
set_option maxRecDepth 100000

def fo1 : Opv := ⟨1, ⟨167837696, 16, 167837696, false⟩, ⟨0, ⟨0, 0, 0, 0, 0, 0⟩⟩, ⟨⟨0, 0, 0, 0, 0, 0⟩, 0⟩⟩
def fo2 : Opv := ⟨3, ⟨0, 0, 0, false⟩, ⟨167837696, ⟨2, 0, 0, 0, 0, 1⟩⟩, ⟨⟨0, 0, 0, 0, 0, 0⟩, 0⟩⟩
def fo3 : Opv := ⟨5, ⟨0, 0, 0, false⟩, ⟨0, ⟨0, 0, 0, 0, 0, 0⟩⟩, ⟨⟨2, 0, 0, 0, 0, 1⟩, 3221225985⟩⟩
def foC : Array Value := fo1.cells ++ fo2.cells ++ fo3.cells
theorem fo_ok : ∀ o ∈ [fo1, fo2, fo3], o.Ok := fun o ho => by
  simp only [List.mem_cons, List.not_mem_nil, or_false] at ho
  rcases ho with rfl | rfl | rfl
  all_goals exact ⟨by decide, by decide, by decide, by decide, by decide, by unfold Mc.Ok; decide, by unfold Mc.Ok; decide, by decide⟩
theorem foC_at {j : Nat} {o : Opv} (ho : ([fo1, fo2, fo3] : List Opv)[j]? = some o) {i : Nat} (hl : i < 19) : foC[0 + j * 19 + i]? = o.cells.toList[i]? := by
  have s1 : fo1.cells.size = 19 := rfl
  have s2 : fo2.cells.size = 19 := rfl
  unfold foC
  rw [Array.getElem?_append, Array.getElem?_append, Array.size_append, s1, s2]
  match j, ho with
  | 0, ho => obtain rfl := Option.some.inj ho; rw [if_pos (by omega), if_pos (by omega), show 0 + 0 * 19 + i = i by omega, Array.getElem?_toList]
  | 1, ho => obtain rfl := Option.some.inj ho; rw [if_pos (by omega), if_neg (by omega), show 0 + 1 * 19 + i - 19 = i by omega, Array.getElem?_toList]
  | 2, ho => obtain rfl := Option.some.inj ho; rw [if_neg (by omega), show 0 + 2 * 19 + i - (19 + 19) = i by omega, Array.getElem?_toList]
  | j + 3, ho => cases ho
theorem foC_eq : foC = #[.int .i64 1, .int .u32 167837696, .int .i64 16, .int .u32 167837696, .bool false, .int .u32 0, .int .u8 0, .int .u8 0, .int .u8 0, .int .u8 0, .int .u8 0, .int .u8 0, .int .u8 0, .int .u8 0, .int .u8 0, .int .u8 0, .int .u8 0, .int .u8 0, .int .u32 0, .int .i64 3, .int .u32 0, .int .i64 0, .int .u32 0, .bool false, .int .u32 167837696, .int .u8 2, .int .u8 0, .int .u8 0, .int .u8 0, .int .u8 0, .int .u8 1, .int .u8 0, .int .u8 0, .int .u8 0, .int .u8 0, .int .u8 0, .int .u8 0, .int .u32 0, .int .i64 5, .int .u32 0, .int .i64 0, .int .u32 0, .bool false, .int .u32 0, .int .u8 0, .int .u8 0, .int .u8 0, .int .u8 0, .int .u8 0, .int .u8 0, .int .u8 2, .int .u8 0, .int .u8 0, .int .u8 0, .int .u8 0, .int .u8 1, .int .u32 3221225985] := rfl
theorem sees_fo {w : World} {g : Nat} (h : w.heap[g]? = some (.cells foC 57)) : SeesOp (fun c => c = g) w (some ⟨g, 0, none⟩) 3 [fo1, fo2, fo3] := by
  refine ⟨rfl, .inr ⟨g, 0, rfl, rfl, (Array.getElem?_eq_some_iff.1 h).1, fun j o ho i v hv => ?_⟩⟩
  rw [cell_of_row _ _ _ _ _ _ h]
  have hl : i < 19 := (List.getElem?_eq_some_iff.1 hv).1
  rw [foC_at ho hl]
  exact hv

theorem Pr.freshW {w w' : World} {X X' : Nat → Prop} {b b' : Bks} {m : Nat} {v v' : Vs} {s : Ks} {B : Nat} (hX : ∀ c, X c → B ≤ c) (hB : B ≤ w.heap.size) (h : PTurn w w' X b m v s X' b' v') : ∀ c, X' c → B ≤ c := fun c hc => (h.xnew c hc).elim (hX c) fun h => Nat.le_trans hB h

theorem first_any (w : World) : Calls Tryz.prog 11 #[] w fun e w' => e = .returned (.bool true) ∧ Below w.heap.size w w' := by
  have HC := hid (both_any w 2 1 1)
  have HCAP : Hid (Cap 2 1 1) := by unfold Hid Cap; decide
  go_enter Tryz.func11, Tryz.ntmps11
  go_wp2_with fail
  refine HC.out.mono ?_
  intro e w1 hp
  obtain ⟨X, b, m, v, rfl, hpr, hX⟩ := hp.1 HCAP.out
  have hb1 := hp.2.2
  have HP := hid hpr
  have HX := hid hX
  have HB1 := hid hb1
  generalize (⟨[], [], [], (2 : Int).toNat, (1 : Int).toNat, (1 : Int).toNat⟩ : Ks) = s at HP
  clear hp hpr hX hb1 HC
  go_upto_region 5 with (first | (refine wpList_alB rfl 49 #[.int .u32 0, .int .i64 0] rfl (fun u => by kernel_rfl) ?_; intro w2 hb2 hs2 hr2) | (refine wpList_stB rfl 49 (.tmp 4) (.tmp 19) rfl w1.heap.size #[.int .u32 167837696, .int .i64 16] rfl rfl _ hr2 (by kernel_rfl) rfl (by simp [Value.oneCell']) ?_; intro w3 hbt3 hr3) | fail)
  have hb3 : Below w1.heap.size w1 w3 := ⟨hbt3.os.trans hb2.os, hbt3.tape.trans hb2.tape, hbt3.output.trans hb2.output, Nat.le_trans hb2.size hbt3.size, fun k hk => (hbt3.block k (by omega) (by omega)).trans (hb2.block k hk)⟩
  have HB3 := hid hb3
  have HR3 : Hid (w3.heap[w1.heap.size]? = some (.cells #[.int .u32 167837696, .int .i64 16] 49)) := hr3
  clear hb2 hs2 hr2 hbt3 hr3 hb3
  go_upto_region 6 with (first | (refine wpList_alB rfl 45 #[.int .u8 0, .int .u8 0, .int .u8 0, .int .u8 0, .int .u8 0, .int .u8 0] rfl (fun u => by kernel_rfl) ?_; intro w4 hb4 hs4 hr4) | (refine wpList_stB rfl 45 (.tmp 5) (.tmp 20) rfl w3.heap.size #[.int .u8 2, .int .u8 0, .int .u8 0, .int .u8 0, .int .u8 0, .int .u8 1] rfl rfl _ hr4 (by kernel_rfl) rfl (by simp [Value.oneCell']) ?_; intro w5 hbt5 hr5) | fail)
  have hb5 : Below w3.heap.size w3 w5 := ⟨hbt5.os.trans hb4.os, hbt5.tape.trans hb4.tape, hbt5.output.trans hb4.output, Nat.le_trans hb4.size hbt5.size, fun k hk => (hbt5.block k (by omega) (by omega)).trans (hb4.block k hk)⟩
  have HB5 : Hid (Below w1.heap.size w1 w5) := HB3.out.trans (hb5.mono HB3.out.size)
  have r3 := below_keeps hb5 HR3.out (Array.getElem?_eq_some_iff.1 HR3.out).1
  have p0 : w5.cell? ⟨w1.heap.size, 0, none⟩ = some (.int .u32 167837696) := by rw [cell_of_row _ _ _ _ _ _ r3]; rfl
  have p1 : w5.cell? ⟨w1.heap.size, 1, none⟩ = some (.int .i64 16) := by rw [cell_of_row _ _ _ _ _ _ r3]; rfl
  have q0 : w5.cell? ⟨w3.heap.size, 0, none⟩ = some (.int .u8 2) := by rw [cell_of_row _ _ _ _ _ _ hr5]; rfl
  have q1 : w5.cell? ⟨w3.heap.size, 1, none⟩ = some (.int .u8 0) := by rw [cell_of_row _ _ _ _ _ _ hr5]; rfl
  have q2 : w5.cell? ⟨w3.heap.size, 2, none⟩ = some (.int .u8 0) := by rw [cell_of_row _ _ _ _ _ _ hr5]; rfl
  have q3 : w5.cell? ⟨w3.heap.size, 3, none⟩ = some (.int .u8 0) := by rw [cell_of_row _ _ _ _ _ _ hr5]; rfl
  have q4 : w5.cell? ⟨w3.heap.size, 4, none⟩ = some (.int .u8 0) := by rw [cell_of_row _ _ _ _ _ _ hr5]; rfl
  have q5 : w5.cell? ⟨w3.heap.size, 5, none⟩ = some (.int .u8 1) := by rw [cell_of_row _ _ _ _ _ _ hr5]; rfl
  obtain ⟨w6, HW6⟩ : ∃ w6, Hid (w6 = w5.alloc (.cells #[.int .i64 1, .int .u32 167837696, .int .i64 16, .int .u32 167837696, .bool false, .int .u32 0, .int .u8 0, .int .u8 0, .int .u8 0, .int .u8 0, .int .u8 0, .int .u8 0, .int .u8 0, .int .u8 0, .int .u8 0, .int .u8 0, .int .u8 0, .int .u8 0, .int .u32 0, .int .i64 3, .int .u32 0, .int .i64 0, .int .u32 0, .bool false, .int .u32 167837696, .int .u8 2, .int .u8 0, .int .u8 0, .int .u8 0, .int .u8 0, .int .u8 1, .int .u8 0, .int .u8 0, .int .u8 0, .int .u8 0, .int .u8 0, .int .u8 0, .int .u32 0, .int .i64 5, .int .u32 0, .int .i64 0, .int .u32 0, .bool false, .int .u32 0, .int .u8 0, .int .u8 0, .int .u8 0, .int .u8 0, .int .u8 0, .int .u8 0, .int .u8 2, .int .u8 0, .int .u8 0, .int .u8 0, .int .u8 0, .int .u8 1, .int .u32 3221225985] 57)) := ⟨_, rfl⟩
  have hb6 : Below w5.heap.size w5 w6 := by rw [HW6.out]; exact (Below.refl _ _).alloc (Nat.le_refl _) _
  have r6 : w6.heap[w5.heap.size]? = some (.cells foC 57) := by rw [HW6.out, foC_eq]; exact heap_alloc_new w5 _
  have HB6 : Hid (Below w1.heap.size w1 w6) := HB5.out.trans (hb6.mono HB5.out.size)
  have HP6 := hid (HP.out.below HB6.out)
  have HC1 : Hid (Calls Tryz.prog 13 #[.pointer (some ⟨b.kb, 0, none⟩), .pointer (some ⟨m, 0, none⟩), .agg #[.int .i64 1, .slice (some ⟨w5.heap.size, 0, none⟩) 3 3, .int .u32 0]] w6 fun e w' => e = .returned (.bool true) ∧ Pd w6 w' X b m v (plS s 1 [fo1, fo2, fo3])) := by
    refine plays_any w6 1 3 0 HP6.out (sees_fo r6) (fun c hc e => ?_) fo_ok (by decide) (by decide)
    have h1 := HP.out.k.lt c (HP.out.fpx e)
    have h2 := HB5.out.size
    omega
  clear hb4 hs4 hr4 hbt5 hr5 hb5 r3 hb6 r6
  go_upto_region 7 with fail
  rw [← HW6.out]
  clear p0 p1 q0 q1 q2 q3 q4 q5 HW6
  go_wp2_with fail
  refine HC1.out.mono ?_
  rintro _ w7 ⟨rfl, X7, b7, v7, ht7⟩
  have HT7 := hid ht7
  have HC2 : Hid (Calls Tryz.prog 13 #[.pointer (some ⟨b.kb, 0, none⟩), .pointer (some ⟨m, 0, none⟩), .agg #[.int .i64 2, .slice none 0 0, .int .u32 167837699]] w7 fun e w' => e = .returned (.bool true) ∧ Pd w7 w' X7 b7 m v7 (plS (plS s 1 [fo1, fo2, fo3]) 2 [])) := by
    unfold Hid
    rw [← ht7.kb]
    exact plays_any (K := fun _ => False) w7 2 0 167837699 ht7.pr (SeesOp.nil _ _ _) (fun c hc => hc.elim) (fun o ho => by cases ho) (by decide) (by decide)
  clear ht7 HC1
  go_wp2_with fail
  refine HC2.out.mono ?_
  rintro _ w8 ⟨rfl, X8, b8, v8, ht8⟩
  have HT8 := hid ht8
  have HC3 : Hid (Calls Tryz.prog 13 #[.pointer (some ⟨b.kb, 0, none⟩), .pointer (some ⟨m, 0, none⟩), .agg #[.int .i64 3, .slice none 0 0, .int .u32 0]] w8 fun e w' => e = .returned (.bool true) ∧ Pd w8 w' X8 b8 m v8 (plS (plS (plS s 1 [fo1, fo2, fo3]) 2 []) 3 [])) := by
    unfold Hid
    rw [← HT7.out.kb, ← ht8.kb]
    exact plays_any (K := fun _ => False) w8 3 0 0 ht8.pr (SeesOp.nil _ _ _) (fun c hc => hc.elim) (fun o ho => by cases ho) (by decide) (by decide)
  clear ht8 HC2
  go_wp2_with fail
  refine HC3.out.mono ?_
  rintro _ w9 ⟨rfl, X9, b9, v9, ht9⟩
  have HFIN : Hid (Below w.heap.size w w9) := by
    have z1 := HB1.out.size
    have z6 := HB6.out.size
    have z7 := HT7.out.keeps.size
    have z8 := HT8.out.keeps.size
    have x7 := Pr.freshW HX.out (by omega) HT7.out
    have x8 := Pr.freshW x7 (by omega) HT8.out
    have b6 : Below w.heap.size w w6 := HB1.out.trans (HB6.out.mono z1)
    have b7' := b6.trans (HT7.out.keeps.below (by omega) fun c hc => HX.out c (HP6.out.fpx hc))
    have b8' := b7'.trans (HT8.out.keeps.below (by omega) fun c hc => x7 c (HT7.out.pr.fpx hc))
    exact b8'.trans (ht9.keeps.below (by omega) fun c hc => x8 c (HT8.out.pr.fpx hc))
  clear ht9 HC3
  go_wp2_with fail
  go_ret
  exact ⟨rfl, HFIN.out⟩

/-- A step of a script as it lies in memory. -/
structure Lop where
  kind : Int
  oa : Option Addr
  on : Nat
  oc : Nat
  L : List Opv
  d : Nat
def Lop.cells (o : Lop) : List Value := [.int .i64 o.kind, .slice o.oa o.on o.oc, .int .u32 (o.d : Int)]
structure Lop.Ok (K : Nat → Prop) (w : World) (o : Lop) : Prop where
  see : SeesOp K w o.oa o.on o.L
  ok : ∀ x ∈ o.L, x.Ok
  on : o.on ≤ 9223372036854775807
  d : o.d < 4294967296
/-- A script in memory, in blocks of K. -/
def SeesL (K : Nat → Prop) (w : World) (a : Option Addr) (n : Nat) (S : List Lop) : Prop :=
  n = S.length ∧ (S = [] ∨ ∃ g off, a = some ⟨g, off, none⟩ ∧ K g ∧ g < w.heap.size ∧ ∀ j o, S[j]? = some o → w.rangeAt g (off + j * 3) o.cells) ∧ ∀ o ∈ S, o.Ok K w
theorem Lop.Ok.kept {K : Nat → Prop} {w w' : World} {o : Lop} (h : o.Ok K w) (hk : ∀ g, K g → g < w.heap.size → w'.heap[g]? = w.heap[g]?) (hs : w.heap.size ≤ w'.heap.size) : o.Ok K w' := ⟨h.see.kept hk hs, h.ok, h.on, h.d⟩
theorem SeesL.kept {K : Nat → Prop} {w w' : World} {a : Option Addr} {n : Nat} {S : List Lop} (h : SeesL K w a n S) (hk : ∀ g, K g → g < w.heap.size → w'.heap[g]? = w.heap[g]?) (hs : w.heap.size ≤ w'.heap.size) : SeesL K w' a n S := by
  obtain ⟨h1, h2, h3⟩ := h
  refine ⟨h1, ?_, fun o ho => (h3 o ho).kept hk hs⟩
  rcases h2 with h0 | ⟨g, off, e, e2, e4, e3⟩
  · exact .inl h0
  · exact .inr ⟨g, off, e, e2, Nat.lt_of_lt_of_le e4 hs, fun j o ho i v hv => (World.cell?_of_block (hk g e2 e4)).trans (e3 j o ho i v hv)⟩
theorem SeesL.below {K : Nat → Prop} {w w' : World} {a : Option Addr} {n : Nat} {S : List Lop} (h : SeesL K w a n S) (hb : Below w.heap.size w w') : SeesL K w' a n S := h.kept (fun g _ hl => hb.block g hl) hb.size
theorem SeesL.more {K K' : Nat → Prop} {w : World} {a : Option Addr} {n : Nat} {S : List Lop} (h : SeesL K w a n S) (hk : ∀ c, K c → K' c) : SeesL K' w a n S := by
  obtain ⟨h1, h2, h3⟩ := h
  refine ⟨h1, ?_, fun o ho => ⟨(h3 o ho).see.more fun c _ e => hk c e, (h3 o ho).ok, (h3 o ho).on, (h3 o ho).d⟩⟩
  rcases h2 with h0 | ⟨g, off, e, e2, e4, e3⟩
  · exact .inl h0
  · exact .inr ⟨g, off, e, hk g e2, e4, e3⟩
theorem SeesL.at {K : Nat → Prop} {w : World} {a : Option Addr} {n : Nat} {S : List Lop} (h : SeesL K w a n S) {j : Nat} {o : Lop} (ho : S[j]? = some o) : ∃ g off, a = some ⟨g, off, none⟩ ∧ (Instr.loadAt 39 (.pointer (some ⟨g, off + j * 3, none⟩))).run Tryz.prog w = .ok (.agg #[.int .i64 o.kind, .slice o.oa o.on o.oc, .int .u32 (o.d : Int)]) w ∧ o.Ok K w := by
  obtain ⟨_, h2, h3⟩ := h
  rcases h2 with h0 | ⟨g, off, e, _, _, e3⟩
  · rw [h0] at ho; cases ho
  · exact ⟨g, off, e, run_loadAt_mid w g (off + j * 3) 39 o.cells _ (e3 j o ho) Tryz.underlying39 rfl (by kernel_rfl), h3 o (List.mem_of_getElem? ho)⟩

theorem alloc_lo (u : World) : (Instr.alloc 39 true (.tuple #[])).run Tryz.prog u = .ok (.pointer (some ⟨u.heap.size, 0, none⟩)) (u.alloc (.cells #[.int .i64 0, .slice none 0 0, .int .u32 0] 39)) := by kernel_rfl

theorem holds_any (w : World) (r n f lo hi : Int) {a : Option Addr} {l cp : Nat} {S : List Lop} (hs : SeesL (fun c => c < w.heap.size) w a l S) (hl : l ≤ 9223372036854775807) :
    Calls Tryz.prog 9 #[.agg #[.int .i64 r, .int .i64 n, .int .i64 f], .slice a l cp, .int .i64 lo, .int .i64 hi] w fun e w' => e = .returned (.bool true) ∧ Below w.heap.size w w' := by
  obtain ⟨w1, HW1⟩ : ∃ w1, Hid (w1 = w.alloc (.cells #[.int .i64 r, .int .i64 n, .int .i64 f] 23)) := ⟨_, rfl⟩
  have hb1 : Below w.heap.size w w1 := by rw [HW1.out]; exact (Below.refl _ _).alloc (Nat.le_refl _) _
  have r1 : w1.heap[w.heap.size]? = some (.cells #[.int .i64 r, .int .i64 n, .int .i64 f] 23) := by rw [HW1.out]; exact heap_alloc_new w _
  have c0 : w1.cell? ⟨w.heap.size, 0, none⟩ = some (.int .i64 r) := by rw [cell_of_row _ _ _ _ _ _ r1]; rfl
  have c1 : w1.cell? ⟨w.heap.size, 1, none⟩ = some (.int .i64 n) := by rw [cell_of_row _ _ _ _ _ _ r1]; rfl
  have c2 : w1.cell? ⟨w.heap.size, 2, none⟩ = some (.int .i64 f) := by rw [cell_of_row _ _ _ _ _ _ r1]; rfl
  have HB1 := hid hb1
  have HSE := hid hs
  have HNL := hid hs.1
  have HC := hid (both_any w1 r n f)
  clear hs hb1 r1
  go_enter Tryz.func9, Tryz.ntmps9
  go_upto_region 1 with fail
  rw [← HW1.out]
  clear HW1
  go_wp2_with fail
  refine HC.out.mono ?_
  intro e w2 hp
  have HB2 : Hid (Below w.heap.size w w2) := HB1.out.trans (hp.2.2.mono HB1.out.size)
  have HF := hid (first_any w2)
  by_cases hcap : Cap r n f
  · obtain ⟨X, b, m, v, rfl, hpr, hX⟩ := hp.1 hcap
    have HP := hid hpr
    have HX : Hid (∀ c, X c → w.heap.size ≤ c) := fun c hc => Nat.le_trans HB1.out.size (hX c hc)
    generalize (⟨[], [], [], r.toNat, n.toNat, f.toNat⟩ : Ks) = s at HP
    clear hp hpr hX hcap HC c0 c1 c2
    go_wp2_with fail
    refine HF.out.mono ?_
    rintro _ w3 ⟨rfl, hb3⟩
    have HP3 := hid (HP.out.below hb3)
    have HB3 : Hid (Below w.heap.size w w3) := HB2.out.trans (hb3.mono HB2.out.size)
    clear hb3 HF HP HB2 HB1
    go_upto_region 7 with fail
    go_loopw [12] (fun i wr => ∃ (j : Nat), i = .int .i64 (j : Int) ∧ j ≤ l ∧ Hid (∃ X' b' v' t, Pr wr X' b' m v' t ∧ b'.kb = b.kb ∧ (∀ c, X' c → w.heap.size ≤ c) ∧ Below w.heap.size w wr)) (fun i _ => l - (intOf i).toNat)
    case atStart => exact ⟨0, rfl, Nat.zero_le _, X, b, v, s, HP3.out, rfl, HX.out, HB3.out⟩
    case round =>
    obtain ⟨j, rfl, hj, HI⟩ := hrel
    by_cases hlt : j < l
    · have hlt' : (j : Int) < (l : Int) := int_lt hlt
      have hj0 : (0 : Int) ≤ (j : Int) := by omega
      obtain ⟨X', b', v', t, hpt, hkb, hX', hbt⟩ := HI.out
      obtain ⟨o, HO⟩ : ∃ o, Hid (S[j]? = some o) := ⟨_, hid (List.getElem?_eq_getElem (by have := HNL.out; omega))⟩
      obtain ⟨g, off, rfl, hld, hok⟩ := (HSE.out.below hbt).at HO.out
      obtain ⟨kd, oa, on, oc, LL, dd⟩ := o
      simp only at hld
      have HLD := hid hld
      have HPT := hid hpt
      have HKB := hid hkb
      have HXX := hid hX'
      have HBT := hid hbt
      have HOK := hid hok
      clear hpt hkb hX' hbt hld hok HI
      go_upto_region 10 with (first | (refine wpList_ld 39 ⟨g, off + j * 3, none⟩ (.tmp 41) rfl rfl HLD.out rfl ?_) | (refine wpList_alB rfl 39 #[.int .i64 0, .slice none 0 0, .int .u32 0] rfl alloc_lo ?_; intro w4 hb4 hs4 hr4) | (refine wpList_stB rfl 39 (.tmp 13) (.tmp 42) rfl wr.heap.size #[.int .i64 kd, .slice oa on oc, .int .u32 (dd : Int)] rfl rfl _ hr4 (by kernel_rfl) rfl (by simp [Value.oneCell']) ?_; intro w5 hbt5 hr5) | fail)
      have hb5 : Below wr.heap.size wr w5 := ⟨hbt5.os.trans hb4.os, hbt5.tape.trans hb4.tape, hbt5.output.trans hb4.output, Nat.le_trans hb4.size hbt5.size, fun k hk => (hbt5.block k (by omega) (by omega)).trans (hb4.block k hk)⟩
      have HP5 := hid (HPT.out.below hb5)
      have HB5 : Hid (Below w.heap.size w w5) := HBT.out.trans (hb5.mono HBT.out.size)
      have HR5 : Hid (w5.heap[wr.heap.size]? = some (.cells #[.int .i64 kd, .slice oa on oc, .int .u32 (dd : Int)] 39)) := hr5
      have e0 : w5.cell? ⟨wr.heap.size, 0, none⟩ = some (.int .i64 kd) := by rw [cell_of_row _ _ _ _ _ _ hr5]; rfl
      have e1 : w5.cell? ⟨wr.heap.size, 1, none⟩ = some (.slice oa on oc) := by rw [cell_of_row _ _ _ _ _ _ hr5]; rfl
      have e2 : w5.cell? ⟨wr.heap.size, 2, none⟩ = some (.int .u32 (dd : Int)) := by rw [cell_of_row _ _ _ _ _ _ hr5]; rfl
      have HPL : Hid (Calls Tryz.prog 13 #[.pointer (some ⟨b.kb, 0, none⟩), .pointer (some ⟨m, 0, none⟩), .agg #[.int .i64 kd, .slice oa on oc, .int .u32 (dd : Int)]] w5 fun e w' => e = .returned (.bool true) ∧ Pd w5 w' X' b' m v' (plS t kd LL)) := by
        unfold Hid
        rw [← HKB.out]
        exact plays_any w5 kd oc dd HP5.out (HOK.out.see.below hb5) (fun c hc e => by have := HXX.out c (HP5.out.fpx e); omega) HOK.out.ok HOK.out.on HOK.out.d
      clear hb5 hbt5 hr5 hb4 hs4 hr4 HLD HPT HBT HOK
      go_wp2_with fail
      refine HPL.out.mono ?_
      rintro _ w6 ⟨rfl, X6, b6, v6, ht6⟩
      have HI6 : Hid (∃ X' b' v' t, Pr w6 X' b' m v' t ∧ b'.kb = b.kb ∧ (∀ c, X' c → w.heap.size ≤ c) ∧ Below w.heap.size w w6) := ⟨X6, b6, v6, _, ht6.pr, ht6.kb.trans HKB.out, Pr.freshW HXX.out HB5.out.size ht6, HB5.out.trans (ht6.keeps.below HB5.out.size fun c hc => HXX.out c (HP5.out.fpx hc))⟩
      clear ht6 HPL e0 e1 e2 HP5 HB5 HR5 HXX HKB
      go_wp2_with fail
      go_roundw
      case rel => exact ⟨j + 1, by go_num, hlt, HI6⟩
      case measure => simp [intOf]; omega
    · have hlt' : ¬ (j : Int) < (l : Int) := int_nlt hlt
      obtain ⟨_, _, _, _, _, _, _, hbt⟩ := HI.out
      have HFIN := hid hbt
      clear hbt HI
      go_wp2_with fail
      go_ret
      exact ⟨rfl, HFIN.out⟩
  · obtain rfl := hp.2.1 hcap
    clear hp hcap HC c0 c1 c2
    go_wp2_with fail
    refine HF.out.mono ?_
    rintro _ w3 ⟨rfl, hb3⟩
    have HFIN : Hid (Below w.heap.size w w3) := HB2.out.trans (hb3.mono HB2.out.size)
    clear hb3 HF
    go_wp2_with fail
    go_ret
    exact ⟨rfl, HFIN.out⟩
end Go.Proofs.YtpdokaoholifkabGreat.Rt
