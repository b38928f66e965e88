/-
  TrieAny's walk.
-/
import Derived.Test.YtmnafocmbcgdiaaSZM
import Derived.Test.YtmnafocmbcgdiaaQZM
namespace Go.Proofs.Ytmnafocmbcgdiaa
open Go.ChangeShapes Go.WideShapes Go.ChangeAt Go.RowKit Go.Shelf N St
attribute [local go_sem] Oper.semAt_some
set_option maxHeartbeats 16000000
set_option maxRecDepth 100000

/-- A list of words. -/
def SeesW (w : World) (v : Value) (L : List ByteArray) : Prop :=
  ∃ ao cap, v = .slice ao L.length cap ∧ L.length ≤ cap ∧ cap ≤ maxLen ∧
    ∀ j (h : j < L.length), ∃ g off, ao = some ⟨g, off, none⟩ ∧ g < w.heap.size ∧ w.cell? ⟨g, off + j, none⟩ = some (.string L[j])

theorem SeesW.below {w w' : World} {v : Value} {L : List ByteArray} (h : SeesW w v L) (hb : Below w.heap.size w w') : SeesW w' v L := by
  obtain ⟨ao, cap, hv, h1, h2, h3⟩ := h
  refine ⟨ao, cap, hv, h1, h2, fun j hj => ?_⟩
  obtain ⟨g, off, ha, hg, c0⟩ := h3 j hj
  exact ⟨g, off, ha, Nat.lt_of_lt_of_le hg hb.size, (hb.cell (p := ⟨g, _, none⟩) hg).trans c0⟩

theorem SeesW.shape {w : World} {v : Value} {L : List ByteArray} (h : SeesW w v L) : ∃ ao n cap, v = .slice ao n cap ∧ Hid (n = L.length) ∧ n ≤ cap ∧ cap ≤ maxLen := by
  obtain ⟨ao, cap, hv, h1, h2, _⟩ := h
  exact ⟨ao, L.length, cap, hv, rfl, h1, h2⟩

theorem SeesW.at {w : World} {ao : Option Addr} {n cap : Nat} {L : List ByteArray} (h : SeesW w (.slice ao n cap) L) (j : Nat) (hj : j < n) : ∃ (g off : Nat) (s : ByteArray), ao = some ⟨g, off, none⟩ ∧ g < w.heap.size ∧ w.cell? ⟨g, off + j, none⟩ = some (.string s) := by
  obtain ⟨ao', cap', hv, h1, h2, h3⟩ := h
  simp at hv
  obtain ⟨rfl, rfl, rfl⟩ := hv
  obtain ⟨g, off, a, b, c⟩ := h3 j hj
  exact ⟨g, off, L[j], a, b, c⟩

def XA2 (sb tb : Nat) (b : Nat) : Prop := b = sb ∨ b = tb

/-- Both tries, and q's box. -/
structure AnB (w : World) (qb sb tb : Nat) (q : St.Tri.K) (W : World) : Prop where
  bel : Below w.heap.size w W
  lo : w.heap.size ≤ sb ∧ w.heap.size ≤ tb
  st : sb ≠ tb
  qx : W.heap[qb]? = some (.cells #[.int .u32 (q.x : Int), .int .i64 (q.n : Int)] 32)
  ss : ∃ S, St.TrieAt W (XA2 sb tb) sb S ∧ St.AtMost q S
  ts : ∃ T, Pa.TrieAt W (XA2 sb tb) tb T ∧ Pa.AtMost ⟨q.x, q.n⟩ T

theorem St.TrieAt.ty {w : World} {X : Nat → Prop} {tb : Nat} {t : St.Tri.Tr} (h : St.TrieAt w X tb t) : ∃ cs, w.heap[tb]? = some (.cells cs 92) := by
  obtain ⟨_, _, ⟨m, h3, _⟩, _⟩ := h
  exact ⟨_, h3⟩
theorem Pa.TrieAt.ty {w : World} {X : Nat → Prop} {tb : Nat} {t : Pa.Tri.Tr} (h : Pa.TrieAt w X tb t) : ∃ cs, w.heap[tb]? = some (.cells cs 95) := by
  obtain ⟨_, _, ⟨m, h3, _⟩, _⟩ := h
  exact ⟨_, h3⟩

theorem cells_ne {W : World} {a b : Nat} {cs ds : Array Value} {s t : TypeId} (h1 : W.heap[a]? = some (.cells cs s)) (h2 : W.heap[b]? = some (.cells ds t)) (h : s ≠ t) : a ≠ b := fun e => by
  subst e
  rw [h1] at h2
  injection h2 with h2
  injection h2 with _ h2
  exact h h2

section
variable {w W W' : World} {qb sb tb : Nat} {q : St.Tri.K}

theorem AnB.grow (h : AnB w qb sb tb q W) (hb : Below W.heap.size W W') : AnB w qb sb tb q W' := by
  obtain ⟨S, hS, aS⟩ := h.ss
  obtain ⟨T, hT, aT⟩ := h.ts
  exact ⟨h.bel.trans (hb.mono h.bel.size), h.lo, h.st, St.below_keeps hb h.qx (Array.getElem?_eq_some_iff.1 h.qx).1, ⟨S, hS.grow hb, aS⟩, ⟨T, hT.grow hb, aT⟩⟩

theorem AnB.puts (h : AnB w qb sb tb q W) (hq : q.Ok) (v : ByteArray) :
    Calls Try.prog 20 #[.pointer (some ⟨sb, 0, none⟩), .agg #[.int .u32 (q.x : Int), .int .i64 (q.n : Int)], .string v] W fun e W' => e = .returned (.int .i64 0) ∧ AnB w qb sb tb q W' ∧ St.TrieAt W' (XA2 sb tb) sb (St.one q v) ∧ St.Chg (fun b => b = sb) W W' := by
  obtain ⟨S, hS, aS⟩ := h.ss
  obtain ⟨T, hT, aT⟩ := h.ts
  refine (St.put_one q v W hS hq aS).mono ?_
  rintro e W' ⟨he, h1, hc⟩
  have hc' : Pa.Chg (fun b => b = sb) W W' := ⟨hc.os, hc.tape, hc.output, hc.size, hc.block⟩
  obtain ⟨cs, hcs⟩ := hS.ty
  have hne := cells_ne h.qx hcs (by decide)
  exact ⟨he, ⟨⟨hc.os.trans h.bel.os, hc.tape.trans h.bel.tape, hc.output.trans h.bel.output, Nat.le_trans h.bel.size hc.size, fun b hb => (hc.block b (Nat.lt_of_lt_of_le hb h.bel.size) (by have := h.lo.1; omega)).trans (h.bel.block b hb)⟩, h.lo, h.st, (hc.block qb (Array.getElem?_eq_some_iff.1 h.qx).1 hne).trans h.qx, ⟨_, h1, .inr ⟨_, rfl⟩⟩, ⟨T, hT.other (fun b hb => .inl hb) (fun e => h.st e.symm) hc', aT⟩⟩, h1, hc⟩

theorem AnB.putt (h : AnB w qb sb tb q W) (hq : Pa.Tri.K.Ok ⟨q.x, q.n⟩) (v : Pa.Tri.Vt) :
    Calls Try.prog 21 #[.pointer (some ⟨tb, 0, none⟩), .agg #[.int .u32 (q.x : Int), .int .i64 (q.n : Int)], .agg #[.int .i64 v.n, .slice v.l v.len v.cap]] W fun e W' => e = .returned (.int .i64 0) ∧ AnB w qb sb tb q W' ∧ Pa.TrieAt W' (XA2 sb tb) tb (Pa.one ⟨q.x, q.n⟩ v) ∧ Pa.Chg (fun b => b = tb) W W' := by
  obtain ⟨S, hS, aS⟩ := h.ss
  obtain ⟨T, hT, aT⟩ := h.ts
  refine (Pa.put_one ⟨q.x, q.n⟩ v W hT hq aT).mono ?_
  rintro e W' ⟨he, h1, hc⟩
  have hc' : St.Chg (fun b => b = tb) W W' := ⟨hc.os, hc.tape, hc.output, hc.size, hc.block⟩
  obtain ⟨cs, hcs⟩ := hT.ty
  have hne := cells_ne h.qx hcs (by decide)
  exact ⟨he, ⟨⟨hc.os.trans h.bel.os, hc.tape.trans h.bel.tape, hc.output.trans h.bel.output, Nat.le_trans h.bel.size hc.size, fun b hb => (hc.block b (Nat.lt_of_lt_of_le hb h.bel.size) (by have := h.lo.2; omega)).trans (h.bel.block b hb)⟩, h.lo, h.st, (hc.block qb (Array.getElem?_eq_some_iff.1 h.qx).1 hne).trans h.qx, ⟨S, hS.other (fun b hb => .inr hb) h.st hc', aS⟩, ⟨_, h1, .inr ⟨_, rfl⟩⟩⟩, h1, hc⟩

theorem AnB.but {g : Nat} {cs : Array Value} (h : AnB w qb sb tb q W) (hg : W.heap[g]? = some (.cells cs 3)) (hlo : w.heap.size ≤ g) (hb : But g W W') : AnB w qb sb tb q W' := by
  obtain ⟨S, hS, aS⟩ := h.ss
  obtain ⟨T, hT, aT⟩ := h.ts
  have hne := cells_ne h.qx hg (by decide)
  exact ⟨hb.below h.bel h.bel.size hlo, h.lo, h.st, (hb.block qb (Array.getElem?_eq_some_iff.1 h.qx).1 hne).trans h.qx, ⟨S, hS.but hg (by decide) (by decide) (by decide) hb, aS⟩, ⟨T, hT.but hg (by decide) (by decide) (by decide) ⟨hb.os, hb.tape, hb.output, hb.size, hb.block⟩, aT⟩⟩
end

theorem neq_sl (u : World) : (binOp .neq 44 (.slice none 0 0) (.slice none 0 0)).run Try.prog u = .ok (.bool false) u := by
  kernel_rfl

theorem any_walk (xa : Nat) (ya : Int) (v1 : Value) (L : List ByteArray) (w : World) (hxa : xa < 4294967296) (hya : In64 ya) (hs1 : SeesW w v1 L) :
    Calls Try.prog 4 #[.agg #[.int .u32 (xa : Int), .int .i64 ya], v1] w fun e w' => e = .returned (.bool true) ∧ Below w.heap.size w w' := by
  obtain ⟨aw, nw, capw, rfl, HNW, hnw1, hnw2⟩ := hs1.shape
  obtain ⟨w1, HW1⟩ : ∃ w1, Hid (w1 = w.alloc (.cells #[.int .u32 (xa : Int), .int .i64 ya] 32)) := ⟨_, rfl⟩
  have hb1 : Below w.heap.size w w1 := by rw [HW1.out]; exact (Below.refl _ _).alloc (Nat.le_refl _) _
  have ra : w1.heap[w.heap.size]? = some (.cells #[.int .u32 (xa : Int), .int .i64 ya] 32) := by rw [HW1.out]; exact heap_alloc_new w _
  have x0 : w1.cell? ⟨w.heap.size, 0, none⟩ = some (.int .u32 (xa : Int)) := by rw [cell_of_row _ _ _ _ _ _ ra]; rfl
  have x1 : w1.cell? ⟨w.heap.size, 1, none⟩ = some (.int .i64 ya) := by rw [cell_of_row _ _ _ _ _ _ ra]; rfl
  have HPX := hid (prefix_any xa ya w1 hxa hya)
  obtain ⟨q, hq⟩ : ∃ q, q = preK xa ya := ⟨_, rfl⟩
  rw [← hq] at HPX
  have HQO : Hid q.Ok := by unfold Hid; rw [hq]; exact preK_ok _ _ hxa
  have HQP : Hid (Pa.Tri.K.Ok ⟨q.x, q.n⟩) := ⟨HQO.out.1, HQO.out.2.1, HQO.out.2.2⟩
  have HB1 := hid hb1
  have HSW := hid hs1
  unfold pv at HPX
  unfold maxLen at hnw2
  clear hb1 ra hq hxa hya hs1
  go_enter Try.func4, Try.ntmps4
  go_upto_region 1 with fail
  rw [← HW1.out]
  go_wp2_with fail
  refine HPX.out.mono ?_
  rintro _ w2 ⟨rfl, hb2⟩
  obtain ⟨w3, HW3⟩ : ∃ w3, Hid (w3 = w2.alloc (.cells #[.int .u32 (q.x : Int), .int .i64 (q.n : Int)] 32)) := ⟨_, rfl⟩
  have hb23 : Below w2.heap.size w2 w3 := by rw [HW3.out]; exact (Below.refl _ _).alloc (Nat.le_refl _) _
  obtain ⟨qb, HQB⟩ : ∃ qb, Hid (qb = w2.heap.size) := ⟨_, rfl⟩
  have rq : w3.heap[qb]? = some (.cells #[.int .u32 (q.x : Int), .int .i64 (q.n : Int)] 32) := by rw [HW3.out, HQB.out]; exact heap_alloc_new w2 _
  have hbw3 : Below w.heap.size w w3 := (HB1.out.trans (hb2.mono HB1.out.size)).trans (hb23.mono (Nat.le_trans HB1.out.size hb2.size))
  have HN1 := hid (St.new_any w3)
  obtain ⟨w4, HW4⟩ : ∃ w4, Hid (w4 = w3.alloc (.cells #[.pointer none] 92)) := ⟨_, rfl⟩
  rw [← HW4.out] at HN1
  obtain ⟨sb, HSB⟩ : ∃ sb, Hid (sb = w3.heap.size) := ⟨_, rfl⟩
  rw [← HSB.out] at HN1
  have hs4 : w4.heap.size = sb + 1 := by rw [HW4.out, HSB.out]; simp
  have HN2 := hid (Pa.new_any w4)
  obtain ⟨w5, HW5⟩ : ∃ w5, Hid (w5 = w4.alloc (.cells #[.pointer none] 95)) := ⟨_, rfl⟩
  rw [← HW5.out, hs4] at HN2
  obtain ⟨tb, HTB⟩ : ∃ tb, Hid (tb = sb + 1) := ⟨_, rfl⟩
  rw [← HTB.out] at HN2
  have hb34 : Below w3.heap.size w3 w4 := by rw [HW4.out]; exact (Below.refl _ _).alloc (Nat.le_refl _) _
  have hb45 : Below w4.heap.size w4 w5 := by rw [HW5.out]; exact (Below.refl _ _).alloc (Nat.le_refl _) _
  have hs5 : w5.heap.size = sb + 2 := by rw [HW5.out]; simp; omega
  have r4 : w4.heap[sb]? = some (.cells #[.pointer none] 92) := by rw [HW4.out, HSB.out]; exact heap_alloc_new w3 _
  have r5 : w5.heap[tb]? = some (.cells #[.pointer none] 95) := by
    have h := heap_alloc_new w4 (.cells #[.pointer none] 95)
    rw [hs4, ← HTB.out] at h
    rw [HW5.out]; exact h
  have hlt : ∀ b, XA2 sb tb b → b < w5.heap.size := fun b hb => by
    have h1 := HTB.out
    rcases hb with hb | hb <;> omega
  have HA5 : Hid (AnB w qb sb tb q w5) :=
    ⟨hbw3.trans ((hb34.trans (hb45.mono hb34.size)).mono hbw3.size), ⟨by have := HSB.out; have := hbw3.size; omega, by have := HSB.out; have := HTB.out; have := hbw3.size; omega⟩, by have := HTB.out; omega,
      St.below_keeps hb45 (St.below_keeps hb34 rq (Array.getElem?_eq_some_iff.1 rq).1) (by have h1 := (Array.getElem?_eq_some_iff.1 rq).1; have h2 := hb34.size; omega),
      ⟨.nil, ⟨.inl rfl, hlt, ⟨.nil, St.below_keeps hb45 r4 (Array.getElem?_eq_some_iff.1 r4).1, rfl, trivial⟩, trivial⟩, .inl rfl⟩,
      ⟨.nil, ⟨.inr rfl, hlt, ⟨.nil, r5, rfl, trivial⟩, trivial⟩, .inl rfl⟩⟩
  have HG0 : Hid (Calls Try.prog 18 #[.pointer (some ⟨sb, 0, none⟩), .agg #[.int .u32 (q.x : Int), .int .i64 (q.n : Int)]] w5 fun e w' => e = .returned (.tuple #[.string ⟨#[]⟩, .int .i64 3]) ∧ Below w5.heap.size w5 w') :=
    St.get_nil q w5 (X := XA2 sb tb) ⟨.inl rfl, hlt, ⟨.nil, St.below_keeps hb45 r4 (Array.getElem?_eq_some_iff.1 r4).1, rfl, trivial⟩, trivial⟩ HQO.out
  have HD0 : Hid (∀ u, Below w5.heap.size w5 u → Calls Try.prog 19 #[.pointer (some ⟨tb, 0, none⟩), .agg #[.int .u32 (q.x : Int), .int .i64 (q.n : Int)]] u fun e w' => e = .returned (.tuple #[.agg #[.int .i64 0, .slice none 0 0], .int .i64 3]) ∧ Below u.heap.size u w') := fun u hu =>
    Pa.del_nil ⟨q.x, q.n⟩ u (X := XA2 sb tb) (Pa.TrieAt.grow ⟨.inr rfl, hlt, ⟨.nil, r5, rfl, trivial⟩, trivial⟩ hu) HQP.out
  clear hb2 hb23 rq hbw3 hs4 hb34 hb45 hs5 r4 r5 hlt x0 x1
  go_upto_region 2 with fail
  rw [← HW3.out, ← HQB.out]
  go_wp2_with fail
  refine HN1.out.mono ?_
  rintro _ _ ⟨rfl, ew⟩
  obtain rfl := ew.symm
  go_wp2_with fail
  refine HN2.out.mono ?_
  rintro _ _ ⟨rfl, ew2⟩
  obtain rfl := ew2.symm
  clear HN1 HN2 ew ew2
  have q5 := HA5.out.qx
  have y0 : w5.cell? ⟨qb, 0, none⟩ = some (.int .u32 (q.x : Int)) := by rw [cell_of_row _ _ _ _ _ _ q5]; rfl
  have y1 : w5.cell? ⟨qb, 1, none⟩ = some (.int .i64 (q.n : Int)) := by rw [cell_of_row _ _ _ _ _ _ q5]; rfl
  clear q5
  go_wp2_with fail
  refine HG0.out.mono ?_
  rintro _ w6 ⟨rfl, hb6⟩
  have hA6 := HA5.out.grow hb6
  have q6 := hA6.qx
  have y0 : w6.cell? ⟨qb, 0, none⟩ = some (.int .u32 (q.x : Int)) := by rw [cell_of_row _ _ _ _ _ _ q6]; rfl
  have y1 : w6.cell? ⟨qb, 1, none⟩ = some (.int .i64 (q.n : Int)) := by rw [cell_of_row _ _ _ _ _ _ q6]; rfl
  have HD6 := hid (HD0.out w6 hb6)
  have HA6 := hid hA6
  clear q6 hA6 hb6 HG0 HD0
  go_wp2_with fail
  refine HD6.out.mono ?_
  rintro _ w7 ⟨rfl, hb7⟩
  obtain ⟨w8, HW8⟩ : ∃ w8, Hid (w8 = w7.alloc (.cells #[.int .i64 0, .slice none 0 0] 46)) := ⟨_, rfl⟩
  have hb78 : Below w7.heap.size w7 w8 := by rw [HW8.out]; exact (Below.refl _ _).alloc (Nat.le_refl _) _
  have r8 : w8.heap[w7.heap.size]? = some (.cells #[.int .i64 0, .slice none 0 0] 46) := by rw [HW8.out]; exact heap_alloc_new w7 _
  have z0 : w8.cell? ⟨w7.heap.size, 0, none⟩ = some (.int .i64 0) := by rw [cell_of_row _ _ _ _ _ _ r8]; rfl
  have z1 : w8.cell? ⟨w7.heap.size, 1, none⟩ = some (.slice none 0 0) := by rw [cell_of_row _ _ _ _ _ _ r8]; rfl
  have HA8 := hid ((HA6.out.grow hb7).grow hb78)
  have hsl := neq_sl
  clear hb7 hb78 r8 y0 y1 HD6
  go_upto_region 8 with fail
  rw [← HW8.out]
  go_upto_region 11 with fail
  clear hsl z0 z1
  go_loopw [12, 13, 14, 15, 16, 17, 18, 19] (fun i _ _ _ _ _ _ _ wr => ∃ (j : Nat), i = .int .i64 (j : Int) ∧ j ≤ nw ∧ Hid (AnB w qb sb tb q wr)) (fun i _ _ _ _ _ _ _ _ => nw - (intOf i).toNat)
  case atStart => exact ⟨0, rfl, by omega, HA8⟩
  case round =>
    obtain ⟨j, rfl, hj, HA⟩ := hrel
    by_cases hjn : j < nw
    · have b1 : (j : Int) < (nw : Int) := by omega
      by_cases hj5 : j < 50
      · have b2 : (j : Int) < 50 := by omega
        obtain ⟨u1, HU1⟩ : ∃ u1, Hid (u1 = wr.alloc (.cells #[.int .i64 (j : Int)] 3)) := ⟨_, rfl⟩
        obtain ⟨g, HG⟩ : ∃ g, Hid (g = wr.heap.size) := ⟨_, rfl⟩
        have hbr : Below wr.heap.size wr u1 := by rw [HU1.out]; exact (Below.refl _ _).alloc (Nat.le_refl _) _
        have rg1 : u1.heap[g]? = some (.cells #[.int .i64 (j : Int)] 3) := by rw [HU1.out, HG.out]; exact heap_alloc_new wr _
        have hA1 := HA.out.grow hbr
        have hdr : Below u1.heap.size u1 u1.drew := ⟨rfl, rfl, rfl, Nat.le_refl _, fun _ _ => rfl⟩
        obtain ⟨gw, ow, s, haw, hgw, cw⟩ := (HSW.out.below hA1.bel).at j hjn
        obtain ⟨gw', ow', s', haw', hgw', cw'⟩ := HSW.out.at j hjn
        rw [haw] at haw'
        simp at haw'
        obtain ⟨rfl, rfl⟩ := haw'
        subst haw
        have HWC : Hid (∀ u, Below w.heap.size w u → u.cell? ⟨gw, ow + j, none⟩ = some (.string s)) := fun u hu => by
          have h1 : w.cell? ⟨gw, ow + j, none⟩ = some (.string s) := by rw [← cw]; exact (hA1.bel.cell (p := ⟨gw, _, none⟩) hgw').symm
          exact (hu.cell (p := ⟨gw, _, none⟩) hgw').trans h1
        have y0 : u1.cell? ⟨qb, 0, none⟩ = some (.int .u32 (q.x : Int)) := by rw [cell_of_row _ _ _ _ _ _ hA1.qx]; rfl
        have y1 : u1.cell? ⟨qb, 1, none⟩ = some (.int .i64 (q.n : Int)) := by rw [cell_of_row _ _ _ _ _ _ hA1.qx]; rfl
        have HPS := hid ((hA1.grow hdr).puts HQO.out s)
        have HRG := hid rg1
        have HGL : Hid (w.heap.size ≤ g) := by unfold Hid; rw [HG.out]; exact HA.out.bel.size
        have b3 : (0 : Int) ≤ (j : Int) := by omega
        have b4 : decide ((j : Int) < 0) = false := by simp
        clear hbr rg1 hA1 hdr hgw hgw' cw'
        go_upto_region 14 with fail
        rw [← HU1.out, ← HG.out]
        refine wp_region_still_tail 6 (by kernel_rfl) (by kernel_rfl) ?_
        simp only [List.take_succ_cons, List.take_zero, List.drop_succ_cons, List.drop_zero]
        iterate 6 still_step
        refine wpStill_nil ?_
        go_wp2_with fail
        refine HPS.out.mono ?_
        rintro _ u2 ⟨rfl, hA2, hO2, hc2⟩
        obtain ⟨cs2, hty⟩ := (hO2.ty)
        obtain ⟨S0, hS0, _⟩ := HA.out.ss
        have rg2 : u2.heap[g]? = some (.cells #[.int .i64 (j : Int)] 3) := by
          have hne : g ≠ sb := by have h1 := HG.out; have h2 := hS0.lt sb (.inl rfl); omega
          exact (hc2.block g (Array.getElem?_eq_some_iff.1 HRG.out).1 hne).trans HRG.out
        have y0 : u2.cell? ⟨qb, 0, none⟩ = some (.int .u32 (q.x : Int)) := by rw [cell_of_row _ _ _ _ _ _ hA2.qx]; rfl
        have y1 : u2.cell? ⟨qb, 1, none⟩ = some (.int .i64 (q.n : Int)) := by rw [cell_of_row _ _ _ _ _ _ hA2.qx]; rfl
        have HPT := hid (hA2.putt HQP.out ⟨(j : Int), some ⟨g, 0, none⟩, 1, 1⟩)
        have HO2 := hid hO2
        have HR2 := hid rg2
        have HGT : Hid (g ≠ tb) := by
          obtain ⟨T0, hT0, _⟩ := HA.out.ts
          have h1 := HG.out
          have h2 := hT0.lt tb (.inr rfl)
          unfold Hid; omega
        have HST := hid hA2.st
        simp only at HPT
        clear hA2 hO2 hc2 hty hS0 rg2 HPS cw
        go_wp2_with fail
        refine HPT.out.mono ?_
        rintro _ u3 ⟨rfl, hA3, hO3, hc3⟩
        have rg3 : u3.heap[g]? = some (.cells #[.int .i64 (j : Int)] 3) := (hc3.block g (Array.getElem?_eq_some_iff.1 HR2.out).1 HGT.out).trans HR2.out
        have hS3 := HO2.out.other (Z := fun b => b = tb) (fun b hb => .inr hb) HST.out ⟨hc3.os, hc3.tape, hc3.output, hc3.size, hc3.block⟩
        have g0 : u3.cell? ⟨g, 0, none⟩ = some (.int .i64 (j : Int)) := by rw [cell_of_row _ _ _ _ _ _ rg3]; rfl
        have gf : u3.frozen? ⟨g, 0, none⟩ = false := frozen_of_row _ _ _ _ _ rg3
        obtain ⟨u4, HU4⟩ : ∃ u4, Hid (u4 = u3.setCell ⟨g, 0, none⟩ (.int .i64 ((j : Int) + 100))) := ⟨_, rfl⟩
        have hbt : But g u3 u4 := by rw [HU4.out]; exact But.set _ _ _ _
        have hA4 := hA3.but rg3 HGL.out hbt
        have hS4 := hS3.but rg3 (by decide) (by decide) (by decide) hbt
        have hT4 := hO3.but rg3 (by decide) (by decide) (by decide) ⟨hbt.os, hbt.tape, hbt.output, hbt.size, hbt.block⟩
        have rg4 : u4.heap[g]? = some (.cells #[.int .i64 ((j : Int) + 100)] 3) := by rw [HU4.out, set_row rg3]; rfl
        have y0 : u4.cell? ⟨qb, 0, none⟩ = some (.int .u32 (q.x : Int)) := by rw [cell_of_row _ _ _ _ _ _ hA4.qx]; rfl
        have HFS := hid (St.found_one u4 hS4 HQO.out)
        have HA4 := hid hA4
        have HT4 := hid hT4
        have HR4 := hid rg4
        clear hA3 hO3 hc3 rg3 hS3 hbt hA4 hS4 hT4 rg4 HPT HO2
        go_upto_region 17 with fail
        rw [← HU4.out]
        go_wp2_with fail
        refine HFS.out.mono ?_
        rintro _ u5 ⟨rfl, hb5⟩
        obtain ⟨u6, HU6⟩ : ∃ u6, Hid (u6 = u5.alloc (.cells #[.int .u32 (q.x : Int), .int .i64 (q.n : Int)] 32)) := ⟨_, rfl⟩
        have hb56 : Below u5.heap.size u5 u6 := by rw [HU6.out]; exact (Below.refl _ _).alloc (Nat.le_refl _) _
        have hb46 : Below u4.heap.size u4 u6 := hb5.trans (hb56.mono hb5.size)
        have hA6 := HA4.out.grow hb46
        have y0 : u6.cell? ⟨qb, 0, none⟩ = some (.int .u32 (q.x : Int)) := by rw [cell_of_row _ _ _ _ _ _ hA6.qx]; rfl
        have HFT := hid (Pa.found_one u6 (HT4.out.grow hb46) HQP.out)
        have HA6' := hid hA6
        have HR6 := hid (below_keeps hb46 HR4.out (Array.getElem?_eq_some_iff.1 HR4.out).1)
        simp only at HFT
        clear hb5 hb56 hb46 hA6 HFS HT4 HR4
        go_upto_region 18 with fail
        rw [← HU6.out]
        go_wp2_with fail
        refine HFT.out.mono ?_
        rintro _ u7 ⟨rfl, hb7⟩
        obtain ⟨u8, HU8⟩ : ∃ u8, Hid (u8 = (u7.alloc (.cells #[.int .u32 (q.x : Int), .int .i64 (q.n : Int)] 32)).alloc (.cells #[.int .i64 (j : Int), .slice (some ⟨g, 0, none⟩) 1 1] 46)) := ⟨_, rfl⟩
        have hb78 : Below u7.heap.size u7 u8 := by rw [HU8.out]; exact ((Below.refl _ _).alloc (Nat.le_refl _) _).alloc (by simp) _
        have r8 : u8.heap[u7.heap.size + 1]? = some (.cells #[.int .i64 (j : Int), .slice (some ⟨g, 0, none⟩) 1 1] 46) := by
          have h := heap_alloc_new (u7.alloc (.cells #[.int .u32 (q.x : Int), .int .i64 (q.n : Int)] 32)) (.cells #[.int .i64 (j : Int), .slice (some ⟨g, 0, none⟩) 1 1] 46)
          rw [World.size_alloc] at h
          rw [HU8.out]; exact h
        have hb68 : Below u6.heap.size u6 u8 := hb7.trans (hb78.mono hb7.size)
        have hA8 := HA6'.out.grow hb68
        have p0 : u8.cell? ⟨u7.heap.size + 1, 0, none⟩ = some (.int .i64 (j : Int)) := by rw [cell_of_row _ _ _ _ _ _ r8]; rfl
        have p1 : u8.cell? ⟨u7.heap.size + 1, 1, none⟩ = some (.slice (some ⟨g, 0, none⟩) 1 1) := by rw [cell_of_row _ _ _ _ _ _ r8]; rfl
        have rg8 := below_keeps hb68 HR6.out (Array.getElem?_eq_some_iff.1 HR6.out).1
        have gc : u8.cell? ⟨g, 0, none⟩ = some (.int .i64 ((j : Int) + 100)) := by rw [cell_of_row _ _ _ _ _ _ rg8]; rfl
        have wc8 := HWC.out u8 hA8.bel
        have HA8' := hid hA8
        clear hb7 hb78 r8 hb68 hA8 rg8 y0 y1 HFT HR6
        go_upto_region 19 with fail
        rw [← HU8.out]
        go_wp2_with fail
        go_roundw
        case rel => exact ⟨j + 1, by go_num, by omega, HA8'⟩
        case measure => simp [intOf]; omega
      · have b2 : ¬ (j : Int) < 50 := by omega
        have HF := hid HA.out.bel
        go_wp2_with fail
        go_ret
        exact ⟨rfl, HF.out⟩
    · have b1 : ¬ (j : Int) < (nw : Int) := by omega
      have HF := hid HA.out.bel
      go_wp2_with fail
      go_ret
      exact ⟨rfl, HF.out⟩
end Go.Proofs.Ytmnafocmbcgdiaa
