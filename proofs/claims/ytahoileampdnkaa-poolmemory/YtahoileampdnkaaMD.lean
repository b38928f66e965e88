/-
  PoolNews.
-/
import Derived.Test.YtahoileampdnkaaMC
namespace Go.Proofs.Ytahoileampdnkaa
open Go.ChangeShapes Go.WideShapes Go.ChangeAt Go.RowKit Ru N Tri
set_option maxHeartbeats 2000000
set_option maxRecDepth 100000

/-- What New is given. -/
structure Sp where
  x : Nat
  y : Int
  s : Int
  lo : Nat
  hi : Nat
  kv : Value
  L : List (Nat × Int)

def Sp.cells (q : Sp) : Array Value := #[.int .u32 (q.x : Int), .int .i64 q.y, .int .i64 q.s, .int .u32 (q.lo : Int), .int .u32 (q.hi : Int), q.kv]

structure Sp.Ok (w : World) (q : Sp) : Prop where
  x : q.x < 4294967296
  lo : q.lo < 4294967296
  hi : q.hi < 4294967296
  ls : ∀ p ∈ q.L, p.1 < 4294967296
  kv : Sees w q.kv q.L
  big : q.L.length * 16 ≤ 140737488351232

def SeesS (w : World) (v : Value) (S : List Sp) : Prop :=
  ∃ ao cap, v = .slice ao S.length cap ∧ S.length ≤ cap ∧ cap ≤ maxLen ∧
    ∀ j (h : j < S.length), ∃ g off, ao = some ⟨g, off, none⟩ ∧ g < w.heap.size ∧ w.cell? ⟨g, off + j * 6, none⟩ = some (.int .u32 (S[j].x : Int)) ∧ w.cell? ⟨g, off + j * 6 + 1, none⟩ = some (.int .i64 S[j].y) ∧ w.cell? ⟨g, off + j * 6 + 2, none⟩ = some (.int .i64 S[j].s) ∧ w.cell? ⟨g, off + j * 6 + 3, none⟩ = some (.int .u32 (S[j].lo : Int)) ∧ w.cell? ⟨g, off + j * 6 + 4, none⟩ = some (.int .u32 (S[j].hi : Int)) ∧ w.cell? ⟨g, off + j * 6 + 5, none⟩ = some S[j].kv

theorem Sp.Ok.below {w w' : World} {q : Sp} (h : q.Ok w) (hb : Below w.heap.size w w') : q.Ok w' := ⟨h.x, h.lo, h.hi, h.ls, h.kv.below hb, h.big⟩

/-- The marks behind. -/
def mk (k : Nat) : List (Nat × Int) := (List.range k).map fun i => (i, 71)
theorem mk_succ (k : Nat) : mk (k + 1) = mk k ++ [(k, 71)] := by unfold mk; rw [List.range_succ]; simp
theorem mk_len (k : Nat) : (mk k).length = k := by simp [mk]

theorem ue26 : Try.prog.underlying 26 = some (.slice (Try.prog.elem 26)) := by kernel_rfl
theorem sze26 (u : World) : (sizeOf (Try.prog.elem 26)).run Try.prog u = .ok 2 u := by kernel_rfl

theorem cut3 (g n cap a b : Nat) (hab : a ≤ b) (hb : b ≤ cap) (u : World) : (Instr.sliceAt 26 (.slice (some ⟨g, 0, none⟩) n cap) none (some (.int .i64 (a : Int))) (some (.int .i64 (b : Int)))).run Try.prog u = .ok (.slice (some ⟨g, 0, none⟩) a b) u := by
  rw [run_sliceAt_slice (h := ue26), run_slice_hm (ht := ue26) (h0 := by omega) (h2 := by omega) (h3 := by omega), sze26]
  simp [Result.andThen, sliced, Addr.add]

def Fn (V : List Value) (ee : Int) (i : Nat) (v : Value) : Prop :=
  (i < 15 → v = V.getD i undef) ∧ (i = 15 ∨ i = 16 → ∃ pv, v = .tuple #[.pointer pv, .int .i64 ee] ∧ (pv = none ↔ ee ≠ 0)) ∧ (i = 17 ∨ i = 19 → ∃ pv, v = .pointer pv ∧ (pv = none ↔ ee ≠ 0)) ∧ (i = 18 ∨ i = 20 → v = .int .i64 ee)
theorem fn_lt {V : List Value} {ee : Int} {i : Nat} {v : Value} (hi : i < 15) (h : v = V.getD i undef) : Fn V ee i v := ⟨fun _ => h, fun k => by omega, fun k => by omega, fun k => by omega⟩
theorem fn_tup {V : List Value} {ee : Int} {i : Nat} {pv : Option Addr} (hi : i = 15 ∨ i = 16) (h : pv = none ↔ ee ≠ 0) : Fn V ee i (.tuple #[.pointer pv, .int .i64 ee]) := ⟨fun _ => by omega, fun _ => ⟨pv, rfl, h⟩, fun k => by omega, fun k => by omega⟩
theorem fn_ptr {V : List Value} {ee : Int} {i : Nat} {pv : Option Addr} (hi : i = 17 ∨ i = 19) (h : pv = none ↔ ee ≠ 0) : Fn V ee i (.pointer pv) := ⟨fun _ => by omega, fun k => by omega, fun _ => ⟨pv, rfl, h⟩, fun k => by omega⟩
theorem fn_int {V : List Value} {ee : Int} {i : Nat} (hi : i = 18 ∨ i = 20) : Fn V ee i (.int .i64 ee) := ⟨fun _ => by omega, fun k => by omega, fun k => by omega, fun _ => rfl⟩
theorem Fn.lt {V : List Value} {ee : Int} {i : Nat} {v : Value} (h : Fn V ee i v) (hi : i < 15) : v = V.getD i undef := h.1 hi
theorem fnu {V : List Value} {ee : Int} {i : Nat} {v : Value} {vs : Nat → Value} (h : Fn V ee i v) : Fn V ee i (upd vs i v i) := by rw [upd_eq]; exact h
def dst14 : Nat → Option Tmp
  | 0 => some 42
  | 1 => some 43
  | 2 => some 44
  | 3 => some 45
  | 4 => some 46
  | 5 => some 47
  | 6 => some 48
  | 7 => some 49
  | 8 => some 50
  | 9 => some 51
  | 10 => some 52
  | 11 => some 53
  | 12 => some 54
  | 13 => some 55
  | 14 => some 56
  | 15 => some 57
  | 16 => some 41
  | 17 => some 58
  | 18 => some 59
  | 19 => some 9
  | 20 => some 10
  | _ => none
theorem ex_asg {P : Program} {o : Oper} {a : Act} {w : World} (x : Operand) (v : Value) (ho : o.op = .assign x) (hx : a.eval x = v) : (execOp a.eval o).run P w = .ok (.value v) w := by
  unfold execOp
  simp [ho, hx]

theorem ex_lenP {o : Oper} {a : Act} {w : World} (t : Nat) (ao : Option Addr) (n c : Nat) (ho : o.op = .call { callee := .builtin .len, args := #[.tmp t], argTypes := #[26] }) (hx : a.eval (.tmp t) = .slice ao n c) : (execOp a.eval o).run Try.prog w = .ok (.value (.int .i64 (n : Int))) w := by
  have hx' : a.tmps[t]?.getD undef = .slice ao n c := by simpa [Act.eval] using hx
  simp only [execOp, ho]
  simp [hx', go_sem]
theorem ex_cut3 {P : Program} {o : Oper} {a : Act} {w : World} (T : TypeId) (x y z : Operand) (s i m v : Value) (ho : o.op = .slice T x none (some y) (some z)) (hx : a.eval x = s) (hy : a.eval y = i) (hz : a.eval z = m) (hr : (Instr.sliceAt T s none (some i) (some m)).run P w = .ok v w) : (execOp a.eval o).run P w = .ok (.value v) w := by
  unfold execOp
  simp [ho, hx, hy, hz, hr, Result.andThen]
theorem ex_ext {P : Program} {o : Oper} {a : Act} {w : World} (x : Operand) (k : Nat) (vs : Array Value) (v : Value) (ho : o.op = .extract x k) (hx : a.eval x = .tuple vs) (hv : vs[k]? = some v) : (execOp a.eval o).run P w = .ok (.value v) w := by
  unfold execOp
  simp only [ho, hx]
  simp [go_sem, hv]
theorem ld_pre {u : World} {g o : Nat} {a b : Value} (h0 : u.cell? ⟨g, o, none⟩ = some a) (h1 : u.cell? ⟨g, o + 1, none⟩ = some b) : (Instr.loadAt 25 (.pointer (some ⟨g, o, none⟩))).run Try.prog u = .ok (.agg #[a, b]) u := by
  simp [go_sem, h0, h1]
theorem ld_int {u : World} {g o : Nat} {a : Value} (h0 : u.cell? ⟨g, o, none⟩ = some a) : (Instr.loadAt 3 (.pointer (some ⟨g, o, none⟩))).run Try.prog u = .ok a u := by simp [go_sem, h0]
theorem ld_adr {u : World} {g o : Nat} {a : Value} (h0 : u.cell? ⟨g, o, none⟩ = some a) : (Instr.loadAt 23 (.pointer (some ⟨g, o, none⟩))).run Try.prog u = .ok a u := by simp [go_sem, h0]
theorem ld_sl {u : World} {g o : Nat} {a : Value} (h0 : u.cell? ⟨g, o, none⟩ = some a) : (Instr.loadAt 26 (.pointer (some ⟨g, o, none⟩))).run Try.prog u = .ok a u := by simp [go_sem, h0]

theorem news_walk (v : Value) (S : List Sp) (w : World) (hv : SeesS w v S) (hok : ∀ q ∈ S, q.Ok w) :
    Calls Try.prog 6 #[v] w fun e w' => e = .returned (.bool true) ∧ Below w.heap.size w w' := by
  obtain ⟨ao, cap, rfl, h1, h2, h3⟩ := hv
  obtain ⟨n, HN⟩ : ∃ n, Hid (n = S.length) := ⟨_, rfl⟩
  unfold maxLen at h2
  rw [← HN.out] at h1 ⊢
  have H3 := hid h3
  have HOK := hid hok
  have HBE := hid (begun_any w)
  clear h3 hok
  go_enter Try.func6, Try.ntmps6
  go_wp2_with fail
  refine HBE.out.mono ?_
  rintro _ w1 ⟨rfl, hb1⟩
  have HB1 := hid hb1
  clear hb1 HBE
  go_upto_region 5 with fail
  go_loopw [4] (fun i wr => ∃ j : Nat, i = .int .i64 (j : Int) ∧ j ≤ n ∧ Hid (Below w.heap.size w wr)) (fun i _ => n - (intOf i).toNat)
  case atStart => exact ⟨0, rfl, Nat.zero_le _, HB1⟩
  case round =>
    obtain ⟨j, rfl, hj, HB⟩ := hrel
    by_cases hjn : j < n
    · have hjl : j < S.length := by have := HN.out; omega
      obtain ⟨g, off, e, hg, c0, c1, c2, c3, c4, c5⟩ := H3.out j hjl
      subst e
      have hq := (HOK.out S[j] (List.getElem_mem hjl)).below HB.out
      rw [← HB.out.cell (p := ⟨g, _, none⟩) hg] at c0 c1 c2 c3 c4 c5
      generalize S[j] = q at *
      obtain ⟨x, y, s, lo, hi, kv, L⟩ := q
      have HQ := hid hq
      simp only at c0 c1 c2 c3 c4 c5
      obtain ⟨ak, nk, ck0, hkv, HNK, hk1, hk2⟩ := hq.kv.shape
      simp only at hkv
      subst hkv
      unfold maxLen at hk2
      obtain ⟨sb, HSB⟩ : ∃ sb, Hid (sb = wr.heap.size) := ⟨_, rfl⟩
      obtain ⟨w2, HW2⟩ : ∃ w2, Hid (w2 = wr.alloc (.cells #[.int .u32 (x : Int), .int .i64 y, .int .i64 s, .int .u32 (lo : Int), .int .u32 (hi : Int), .slice ak nk ck0] 28)) := ⟨_, rfl⟩
      have hb2 : Below wr.heap.size wr w2 := by rw [HW2.out]; exact (Below.refl _ _).alloc (Nat.le_refl _) _
      have r2 : w2.heap[sb]? = some (.cells #[.int .u32 (x : Int), .int .i64 y, .int .i64 s, .int .u32 (lo : Int), .int .u32 (hi : Int), .slice ak nk ck0] 28 (0, 0)) := by rw [HW2.out, HSB.out]; exact heap_alloc_new wr _
      have hsb : sb < w2.heap.size := (Array.getElem?_eq_some_iff.1 r2).1
      have HB2 : Hid (Below w.heap.size w w2) := HB.out.trans (hb2.mono HB.out.size)
      have HCL : Hid (∀ u : World, Below w2.heap.size w2 u → u.cell? ⟨sb, 0, none⟩ = some (.int .u32 (x : Int)) ∧ u.cell? ⟨sb, 1, none⟩ = some (.int .i64 y) ∧ u.cell? ⟨sb, 2, none⟩ = some (.int .i64 s) ∧ u.cell? ⟨sb, 3, none⟩ = some (.int .u32 (lo : Int)) ∧ u.cell? ⟨sb, 4, none⟩ = some (.int .u32 (hi : Int)) ∧ u.cell? ⟨sb, 5, none⟩ = some (.slice ak nk ck0)) := fun u hu => by
        have hr := below_keeps hu r2 hsb
        refine ⟨?_, ?_, ?_, ?_, ?_, ?_⟩ <;> (rw [cell_of_row _ _ _ _ _ _ hr]; rfl)
      have HQ2 := hid (HQ.out.below hb2)
      obtain ⟨vr, w3, hap, how, hgr⟩ := append_pref w2 26 w2.heap.size (.slice none 0 0) (.slice ak nk ck0) [] L ⟨rfl, .inl ⟨rfl, rfl⟩⟩ HQ2.out.kv (Nat.le_refl _) (by have := HQ2.out.big; simp only at this; simp; omega)
      have hb3 : Below w2.heap.size w2 w3 := ⟨hgr.os, hgr.tape, hgr.output, hgr.size, fun k hk => hgr.block k hk (by simp [Value.ownBlock])⟩
      rw [List.nil_append] at how
      have HAP := hid hap
      have HO3 : Hid (OwnP w3 w2.heap.size vr (L ++ mk 0)) := by unfold Hid; rw [show mk 0 = [] from rfl, List.append_nil]; exact how
      have HB3 := hid hb3
      have b1 : (j : Int) < (n : Int) := by omega
      clear hq hb2 r2 hap how hgr hb3 hg
      go_upto_region 8 with fail
      rw [← HW2.out, ← HSB.out]
      clear c0 c1 c2 c3 c4 c5
      obtain ⟨d0, d1, d2, d3, d4, d5⟩ := HCL.out w2 (Below.refl _ _)
      clear d0 d1 d2 d3 d4
      go_upto_region 10 with (at_builtin; refine wpList_append_run _ rfl _ _ 26 26 rfl _ _ rfl rfl HAP.out ?_)
      clear d5
      go_loopw [6, 7] (fun r k wi => ∃ m : Nat, k = .int .i64 (m : Int) ∧ m ≤ 70 ∧ Hid (OwnP wi w2.heap.size r (L ++ mk m)) ∧ Hid (Below w2.heap.size w2 wi)) (fun _ k _ => 70 - (intOf k).toNat)
      case atStart => exact ⟨0, rfl, by omega, HO3, HB3⟩
      case round =>
        obtain ⟨m, rfl, hm, HO, HBI⟩ := hrel
        by_cases hm70 : m < 70
        · obtain ⟨w4, HW4⟩ : ∃ w4, Hid (w4 = wr.alloc (.cells #[.int .u32 (m : Int), .int .i64 71] 25)) := ⟨_, rfl⟩
          have hb4 : Below wr.heap.size wr w4 := by rw [HW4.out]; exact (Below.refl _ _).alloc (Nat.le_refl _) _
          have r4 : w4.heap[wr.heap.size]? = some (.cells #[.int .u32 (m : Int), .int .i64 71] 25 (0, 0)) := by rw [HW4.out]; exact heap_alloc_new wr _
          have hS4 : Sees w4 (.slice (some ⟨wr.heap.size, 0, none⟩) 1 1) [(m, 71)] := by
            refine ⟨_, 1, rfl, Nat.le_refl _, by decide, fun k hk => ?_⟩
            have : k = 0 := by simp at hk; exact hk
            subst this
            exact ⟨wr.heap.size, 0, rfl, (Array.getElem?_eq_some_iff.1 r4).1, by rw [cell_of_row _ _ _ _ _ _ r4]; rfl, by rw [cell_of_row _ _ _ _ _ _ r4]; rfl⟩
          have hbi := HBI.out
          have hlen : (L ++ mk m).length = L.length + m := by rw [List.length_append, mk_len]
          obtain ⟨vr', w5, hap, how, hgr⟩ := append_pref w4 26 w2.heap.size _ (.slice (some ⟨wr.heap.size, 0, none⟩) 1 1) (L ++ mk m) [(m, 71)] (HO.out.below hb4) hS4 (Nat.le_trans hbi.size hb4.size) (by have := HQ2.out.big; simp only at this; rw [hlen]; simp; omega)
          have HAP4 := hid hap
          have HO5 : Hid (OwnP w5 w2.heap.size vr' (L ++ mk (m + 1))) := by unfold Hid; rw [mk_succ, ← List.append_assoc]; exact how
          have HB5 : Hid (Below w2.heap.size w2 w5) := by
            have h4 := hbi.trans (hb4.mono hbi.size)
            refine ⟨hgr.os.trans h4.os, hgr.tape.trans h4.tape, hgr.output.trans h4.output, Nat.le_trans h4.size hgr.size, fun k hk => (hgr.block k (Nat.lt_of_lt_of_le hk h4.size) (fun e => ?_)).trans (h4.block k hk)⟩
            have h5 := (World.ownsRow.lt HO.out k e.symm).1
            omega
          clear hb4 r4 hS4 hbi hlen hap how hgr
          go_upto_region 11 with (at_builtin; rw [← HW4.out]; refine wpList_append_run _ rfl _ _ 26 26 rfl _ _ rfl rfl HAP4.out ?_)
          go_wp2_with fail
          go_roundw
          case rel => exact ⟨m + 1, by go_num, by omega, HO5, HB5⟩
          case measure => simp [intOf]; omega
        · have hm' : m = 70 := by omega
          subst hm'
          have hlen : (L ++ mk 70).length = L.length + 70 := by rw [List.length_append, mk_len]
          rcases HO.out.2 with ⟨_, h0⟩ | ⟨gr, capr, cur, e, hbr, hgr0, hrc1, hrc2, hrs, hrt⟩
          · omega
          · rw [hlen] at e hrc1
            subst e
            obtain ⟨nr, HNR⟩ : ∃ nr, Hid (nr = L.length + 70) := ⟨_, rfl⟩
            rw [← HNR.out] at HO ⊢
            unfold maxLen at hrc2
            have hnr1 : nr ≤ capr := by rw [HNR.out]; exact hrc1
            have hnk : nk = L.length := HNK.out
            have hkr : nk ≤ nr := by rw [HNR.out]; omega
            clear hrt hrs hrc1 hbr hgr0
            obtain ⟨vw, w6, hap, how, hgr⟩ := append_pref wr 26 wr.heap.size (.slice none 0 0) (.slice (some ⟨gr, 0, none⟩) nr capr) [] (L ++ mk 70) ⟨rfl, .inl ⟨rfl, rfl⟩⟩ HO.out.sees (Nat.le_refl _) (by have := HQ2.out.big; simp only at this; rw [hlen]; simp; omega)
            rw [List.nil_append] at how
            have hb6 : Below wr.heap.size wr w6 := ⟨hgr.os, hgr.tape, hgr.output, hgr.size, fun k hk => hgr.block k hk (by simp [Value.ownBlock])⟩
            have HAP6 := hid hap
            have hb6d : Below wr.heap.size wr w6.drew := ⟨hb6.os, hb6.tape, hb6.output, hb6.size, hb6.block⟩
            have HB26 : Hid (Below w2.heap.size w2 w6.drew) := HBI.out.trans (hb6d.mono HBI.out.size)
            have HSR : Hid (Sees w6.drew (.slice (some ⟨gr, 0, none⟩) nr capr) (L ++ mk 70)) := HO.out.sees.below hb6d
            have hwb : Below w6.heap.size w6 w6.drew := ⟨rfl, rfl, rfl, Nat.le_refl _, fun _ _ => rfl⟩
            have HSW : Hid (Sees w6.drew vw (L ++ mk 70)) := how.sees.below hwb
            have HSF : Hid (Sees w6.drew (.slice (some ⟨gr, 0, none⟩) nk nr) L) := by
              rw [hnk]
              exact OwnP.front (HO.out.below hb6d) nr (by omega) (by unfold maxLen; omega)
            have HQ6 := hid (HQ2.out.below HB26.out)
            have HNEW : ∀ u, Below w6.heap.size w6 u → Hid (Calls Try.prog 21 #[.agg #[.int .u32 (x : Int), .int .i64 y], .int .i64 s, .int .u32 (lo : Int), .int .u32 (hi : Int), .slice (some ⟨gr, 0, none⟩) nk nr] u fun e w7 => ∃ pv, e = .returned (.tuple #[.pointer pv, .int .i64 (newE x y s lo hi L)]) ∧ (pv = none ↔ newE x y s lo hi L ≠ 0) ∧ Below u.heap.size u w7) := fun u hu =>
              hid <| (new_any x lo hi y s _ L u HQ6.out.x HQ6.out.lo HQ6.out.hi (Sees.below (w := w6) HSF.out hu) HQ6.out.ls).mono fun e w7 h => by
                rcases h with ⟨h1, h2, h3⟩ | ⟨h1, pb, sub, vk, ks, -, h2, h3, -⟩
                · exact ⟨none, h2, ⟨fun _ => h1, fun _ => rfl⟩, h3⟩
                · refine ⟨some ⟨pb, 0, none⟩, by rw [h1]; exact h2, ⟨(fun h => by cases h), fun h => absurd h1 h⟩, h3.be⟩
            have HB26W : Hid (Below w2.heap.size w2 w6) := ⟨HB26.out.os, HB26.out.tape, HB26.out.output, HB26.out.size, HB26.out.block⟩
            have HNRF : ∀ w7, Below w6.heap.size w6 w7 → Hid (Calls Try.prog 22 #[.agg #[.int .u32 (x : Int), .int .i64 y], .int .i64 s, .int .u32 (lo : Int), .int .u32 (hi : Int), .slice ak nk ck0] w7 fun e w8 => ∃ pv, e = .returned (.tuple #[.pointer pv, .int .i64 (newE x y s lo hi L)]) ∧ (pv = none ↔ newE x y s lo hi L ≠ 0) ∧ Below w7.heap.size w7 w8) := fun w7 hb7 =>
              hid ((newR_any x lo hi y s _ L w7 HQ6.out.x HQ6.out.lo HQ6.out.hi (Sees.below (w := w6) HQ6.out.kv hb7) HQ6.out.ls).mono fun e w8 h => by
                rcases h with ⟨h1, h2, h3⟩ | ⟨h1, rb, sub, vk, -, h2, h3⟩
                · exact ⟨none, h2, ⟨fun _ => h1, fun _ => rfl⟩, h3⟩
                · refine ⟨some ⟨rb, 0, none⟩, by rw [h1]; exact h2, ⟨(fun h => by cases h), fun h => absurd h1 h⟩, h3.be⟩)
            obtain ⟨ee, HEE⟩ : ∃ ee, Hid (ee = newE x y s lo hi L) := ⟨_, rfl⟩
            rw [← HEE.out] at HNEW HNRF
            have hcut := cut3 gr nr capr nk nr hkr hnr1
            clear hap how hgr hb6 hb6d hwb hnk hlen
            go_upto_region 14 with (at_builtin; refine wpList_append_run _ rfl _ _ 26 26 rfl _ _ rfl rfl HAP6.out ?_)
            refine wp_region_all' 21 dst14 (fun i vs _ => Fn [.pointer (some ⟨sb, 0, none⟩), .agg #[.int .u32 (x : Int), .int .i64 y], .pointer (some ⟨sb, 2, none⟩), .int .i64 s, .pointer (some ⟨sb, 3, none⟩), .int .u32 (lo : Int), .pointer (some ⟨sb, 4, none⟩), .int .u32 (hi : Int), .slice (some ⟨gr, 0, none⟩) nr capr, .pointer (some ⟨sb, 5, none⟩), .slice ak nk ck0, .int .i64 (nk : Int), .slice (some ⟨gr, 0, none⟩) nr capr, .int .i64 (nr : Int), .slice (some ⟨gr, 0, none⟩) nk nr] ee i (vs i)) (fun u => Below w6.heap.size w6 u) (fun _ u u' => Below u.heap.size u u') (by kernel_rfl) (by kernel_rfl) ⟨rfl, rfl, rfl, Nat.le_refl _, fun _ _ => rfl⟩ (fun i j o vs v w w' hij _ _ h _ _ => by show Fn _ _ _ (upd vs j v i); rw [upd_ne v hij]; exact h) ?_ ?_
            · simp only [N.stepsAll]
              refine ⟨?_, ?_, ?_, ?_, ?_, ?_, ?_, ?_, ?_, ?_, ?_, ?_, ?_, ?_, ?_, ?_, ?_, ?_, ?_, ?_, ?_, trivial⟩
              · intro a u vs hb hold hdep
                exact wp_val (ex_field _ ⟨sb, 0, none⟩ (.tmp 5) 0 _ rfl (hold 5 (by decide)) (by kernel_rfl)) ⟨_, rfl, fnu (fn_lt (by decide) rfl), hb, Below.refl _ _⟩
              · intro a u vs hb hold hdep
                have h := hdep ⟨0, .data⟩ (by simp) rfl
                have he := (h.2 42 rfl).trans (Fn.lt h.1 (by decide))
                have hc := HCL.out u (HB26W.out.trans (hb.mono HB26W.out.size))
                exact wp_val (ex_load _ _ (.tmp 42) _ rfl he (ld_pre hc.1 hc.2.1)) ⟨_, rfl, fnu (fn_lt (by decide) rfl), hb, Below.refl _ _⟩
              · intro a u vs hb hold hdep
                exact wp_val (ex_field _ ⟨sb, 0, none⟩ (.tmp 5) 1 _ rfl (hold 5 (by decide)) (by kernel_rfl)) ⟨_, rfl, fnu (fn_lt (by decide) rfl), hb, Below.refl _ _⟩
              · intro a u vs hb hold hdep
                have h := hdep ⟨2, .data⟩ (by simp) rfl
                have he := (h.2 44 rfl).trans (Fn.lt h.1 (by decide))
                have hc := HCL.out u (HB26W.out.trans (hb.mono HB26W.out.size))
                exact wp_val (ex_load _ _ (.tmp 44) _ rfl he (ld_int hc.2.2.1)) ⟨_, rfl, fnu (fn_lt (by decide) rfl), hb, Below.refl _ _⟩
              · intro a u vs hb hold hdep
                exact wp_val (ex_field _ ⟨sb, 0, none⟩ (.tmp 5) 2 _ rfl (hold 5 (by decide)) (by kernel_rfl)) ⟨_, rfl, fnu (fn_lt (by decide) rfl), hb, Below.refl _ _⟩
              · intro a u vs hb hold hdep
                have h := hdep ⟨4, .data⟩ (by simp) rfl
                have he := (h.2 46 rfl).trans (Fn.lt h.1 (by decide))
                have hc := HCL.out u (HB26W.out.trans (hb.mono HB26W.out.size))
                exact wp_val (ex_load _ _ (.tmp 46) _ rfl he (ld_adr hc.2.2.2.1)) ⟨_, rfl, fnu (fn_lt (by decide) rfl), hb, Below.refl _ _⟩
              · intro a u vs hb hold hdep
                exact wp_val (ex_field _ ⟨sb, 0, none⟩ (.tmp 5) 3 _ rfl (hold 5 (by decide)) (by kernel_rfl)) ⟨_, rfl, fnu (fn_lt (by decide) rfl), hb, Below.refl _ _⟩
              · intro a u vs hb hold hdep
                have h := hdep ⟨6, .data⟩ (by simp) rfl
                have he := (h.2 48 rfl).trans (Fn.lt h.1 (by decide))
                have hc := HCL.out u (HB26W.out.trans (hb.mono HB26W.out.size))
                exact wp_val (ex_load _ _ (.tmp 48) _ rfl he (ld_adr hc.2.2.2.2.1)) ⟨_, rfl, fnu (fn_lt (by decide) rfl), hb, Below.refl _ _⟩
              · intro a u vs hb hold hdep
                exact wp_val (ex_move (.tmp 6) _ rfl (hold 6 (by decide))) ⟨_, rfl, fnu (fn_lt (by decide) rfl), hb, Below.refl _ _⟩
              · intro a u vs hb hold hdep
                exact wp_val (ex_field _ ⟨sb, 0, none⟩ (.tmp 5) 4 _ rfl (hold 5 (by decide)) (by kernel_rfl)) ⟨_, rfl, fnu (fn_lt (by decide) rfl), hb, Below.refl _ _⟩
              · intro a u vs hb hold hdep
                have h := hdep ⟨9, .data⟩ (by simp) rfl
                have he := (h.2 51 rfl).trans (Fn.lt h.1 (by decide))
                have hc := HCL.out u (HB26W.out.trans (hb.mono HB26W.out.size))
                exact wp_val (ex_load _ _ (.tmp 51) _ rfl he (ld_sl hc.2.2.2.2.2)) ⟨_, rfl, fnu (fn_lt (by decide) rfl), hb, Below.refl _ _⟩
              · intro a u vs hb hold hdep
                have h := hdep ⟨10, .data⟩ (by simp) rfl
                have he := (h.2 52 rfl).trans (Fn.lt h.1 (by decide))
                exact wp_val (ex_lenP 52 _ _ _ rfl he) ⟨_, rfl, fnu (fn_lt (by decide) rfl), hb, Below.refl _ _⟩
              · intro a u vs hb hold hdep
                exact wp_val (ex_move (.tmp 6) _ rfl (hold 6 (by decide))) ⟨_, rfl, fnu (fn_lt (by decide) rfl), hb, Below.refl _ _⟩
              · intro a u vs hb hold hdep
                have h := hdep ⟨12, .data⟩ (by simp) rfl
                have he := (h.2 54 rfl).trans (Fn.lt h.1 (by decide))
                exact wp_val (ex_lenP 54 _ _ _ rfl he) ⟨_, rfl, fnu (fn_lt (by decide) rfl), hb, Below.refl _ _⟩
              · intro a u vs hb hold hdep
                have h := hdep ⟨8, .data⟩ (by simp) rfl
                have he := (h.2 50 rfl).trans (Fn.lt h.1 (by decide))
                have k := hdep ⟨11, .data⟩ (by simp) rfl
                have ke := (k.2 53 rfl).trans (Fn.lt k.1 (by decide))
                have l := hdep ⟨13, .data⟩ (by simp) rfl
                have le := (l.2 55 rfl).trans (Fn.lt l.1 (by decide))
                exact wp_val (ex_cut3 _ (.tmp 50) (.tmp 53) (.tmp 55) _ _ _ _ rfl he ke le (cut3 gr nr capr nk nr hkr hnr1 u)) ⟨_, rfl, fnu (fn_lt (by decide) rfl), hb, Below.refl _ _⟩
              · intro a u vs hb hold hdep
                have h1 := hdep ⟨1, .data⟩ (by simp) rfl
                have h1e := (h1.2 43 rfl).trans (Fn.lt h1.1 (by decide))
                have h3 := hdep ⟨3, .data⟩ (by simp) rfl
                have h3e := (h3.2 45 rfl).trans (Fn.lt h3.1 (by decide))
                have h5 := hdep ⟨5, .data⟩ (by simp) rfl
                have h5e := (h5.2 47 rfl).trans (Fn.lt h5.1 (by decide))
                have h7 := hdep ⟨7, .data⟩ (by simp) rfl
                have h7e := (h7.2 49 rfl).trans (Fn.lt h7.1 (by decide))
                have h14 := hdep ⟨14, .data⟩ (by simp) rfl
                have h14e := (h14.2 56 rfl).trans (Fn.lt h14.1 (by decide))
                refine wp_call 21 _ _ rfl (enters_of Try.func21 (by kernel_rfl) rfl) #[.agg #[.int .u32 (x : Int), .int .i64 y], .int .i64 s, .int .u32 (lo : Int), .int .u32 (hi : Int), .slice (some ⟨gr, 0, none⟩) nk nr] (by simp only [List.map_toArray, List.map_cons, List.map_nil]; exact congrArg _ (by rw [show a.eval (.tmp 43) = _ from h1e, show a.eval (.tmp 45) = _ from h3e, show a.eval (.tmp 47) = _ from h5e, show a.eval (.tmp 49) = _ from h7e, show a.eval (.tmp 56) = _ from h14e]; rfl)) ?_
                refine (HNEW u hb).out.mono ?_
                rintro _ u' ⟨pv, rfl, hpv, hb'⟩
                exact ⟨_, rfl, _, rfl, fnu (fn_tup (by decide) hpv), hb.trans (hb'.mono hb.size), hb'⟩
              · intro a u vs hb hold hdep
                have h := hdep ⟨15, .data⟩ (by simp) rfl
                obtain ⟨pv, e1, e2⟩ := h.1.2.1 (.inl rfl)
                exact wp_val (ex_move (.tmp 57) _ rfl ((h.2 57 rfl).trans e1)) ⟨_, rfl, fnu (fn_tup (by decide) e2), hb, Below.refl _ _⟩
              · intro a u vs hb hold hdep
                have h := hdep ⟨16, .data⟩ (by simp) rfl
                obtain ⟨pv, e1, e2⟩ := h.1.2.1 (.inr rfl)
                exact wp_val (ex_ext (.tmp 41) 0 _ _ rfl ((h.2 41 rfl).trans e1) rfl) ⟨_, rfl, fnu (fn_ptr (by decide) e2), hb, Below.refl _ _⟩
              · intro a u vs hb hold hdep
                have h := hdep ⟨16, .data⟩ (by simp) rfl
                obtain ⟨pv, e1, e2⟩ := h.1.2.1 (.inr rfl)
                exact wp_val (ex_ext (.tmp 41) 1 _ _ rfl ((h.2 41 rfl).trans e1) rfl) ⟨_, rfl, fnu (fn_int (by decide)), hb, Below.refl _ _⟩
              · intro a u vs hb hold hdep
                have h := hdep ⟨17, .data⟩ (by simp) rfl
                obtain ⟨pv, e1, e2⟩ := h.1.2.2.1 (.inl rfl)
                exact wp_val (ex_asg (.tmp 58) _ rfl ((h.2 58 rfl).trans e1)) ⟨_, rfl, fnu (fn_ptr (by decide) e2), hb, Below.refl _ _⟩
              · intro a u vs hb hold hdep
                have h := hdep ⟨18, .data⟩ (by simp) rfl
                have e1 := h.1.2.2.2 (.inl rfl)
                exact wp_val (ex_asg (.tmp 59) _ rfl ((h.2 59 rfl).trans e1)) ⟨_, rfl, fnu (fn_int (by decide)), hb, Below.refl _ _⟩
            intro vs w7 hb7 hF
            obtain ⟨pv, hpv1, hpv2⟩ := (hF 19 (by decide)).2.2.1 (.inr rfl)
            have hee : vs 20 = .int .i64 ee := (hF 20 (by decide)).2.2.2 (.inr rfl)
            clear hF
            simp only [putsO, dst14, List.range, List.range.loop, List.foldr, if_true, Act.put, List.setIfInBounds_toArray, List.set_cons_zero, List.set_cons_succ]
            generalize vs 19 = z19 at hpv1 ⊢
            generalize vs 20 = z20 at hee ⊢
            subst hpv1 hee
            generalize vs 0 = y0
            generalize vs 1 = y1
            generalize vs 2 = y2
            generalize vs 3 = y3
            generalize vs 4 = y4
            generalize vs 5 = y5
            generalize vs 6 = y6
            generalize vs 7 = y7
            generalize vs 8 = y8
            generalize vs 9 = y9
            generalize vs 10 = y10
            generalize vs 11 = y11
            generalize vs 12 = y12
            generalize vs 13 = y13
            generalize vs 14 = y14
            generalize vs 15 = y15
            generalize vs 16 = y16
            generalize vs 17 = y17
            generalize vs 18 = y18
            have hend : ∀ w8, Below w7.heap.size w7 w8 → Hid (Calls Try.prog 18 #[.slice (some ⟨gr, 0, none⟩) nr capr, vw] w8 fun e w' => e = .returned (.bool true) ∧ Below w8.heap.size w8 w') := fun w8 hb8 => hid (same_self _ _ (L ++ mk 70) w8 ((Sees.below (w := w6) HSR.out hb7).below hb8) ((Sees.below (w := w6) HSW.out hb7).below hb8))
            have hfin : ∀ w8 w9, Below w7.heap.size w7 w8 → Below w8.heap.size w8 w9 → Below w.heap.size w w9 := fun w8 w9 h8 h9 => by
              have hx := HB26W.out.trans (hb7.mono HB26W.out.size)
              have h := HB2.out.trans (hx.mono HB2.out.size)
              have h' := h.trans (h8.mono h.size)
              exact h'.trans (h9.mono h'.size)
            have HNR7 := HNRF w7 hb7
            obtain ⟨d0, d1, d2, d3, d4, d5⟩ := HCL.out w7 (HB26W.out.trans (hb7.mono HB26W.out.size))
            go_wp2_with fail
            refine HNR7.out.mono ?_
            rintro e w8 ⟨pr, rfl, hpr, hb8⟩
            have HS8 := hend w8 hb8
            clear d0 d1 d2 d3 d4 d5
            have hpq : pv = none ↔ pr = none := hpv2.trans hpr.symm
            cases pv with
            | none =>
              obtain rfl := hpq.1 rfl
              clear hpq hpv2 hpr
              go_wp2_with fail
              refine HS8.out.mono ?_
              rintro _ w9 ⟨rfl, hb9⟩
              have HBF := hid (hfin w8 w9 hb8 hb9)
              clear hb8 hb9 hend hfin
              go_wp2_with fail
              go_roundw
              case rel => exact ⟨j + 1, by go_num, by omega, HBF⟩
              case measure => simp [intOf]; omega
            | some pa =>
              cases pr with
              | none => exact absurd (hpq.2 rfl) (by simp)
              | some pb =>
                clear hpq hpv2 hpr
                go_wp2_with fail
                refine HS8.out.mono ?_
                rintro _ w9 ⟨rfl, hb9⟩
                have HBF := hid (hfin w8 w9 hb8 hb9)
                clear hb8 hb9 hend hfin
                go_wp2_with fail
                go_roundw
                case rel => exact ⟨j + 1, by go_num, by omega, HBF⟩
                case measure => simp [intOf]; omega
    · go_wp2_with fail
      go_ret
      exact ⟨rfl, HB.out⟩
end Go.Proofs.Ytahoileampdnkaa
