/-
  The law's keep.
-/
import Derived.Test.YtjilahbkolcekabGH1
import Derived.Great.BuildSlice
namespace Go.Proofs.Ytjilahbkolcekab
open Go.ChangeShapes Go.WideShapes Go.ChangeAt Go.RowKit Go.Maps Tri N
set_option maxHeartbeats 8000000
set_option maxRecDepth 100000

theorem ex_nilK {P : Program} {o : Oper} {a : Act} {w : World} (p : Addr) (x : Operand) (ho : o.op = .nilCheck x) (hx : a.eval x = .pointer (some p)) : (execOp a.eval o).run P w = .ok (.value (.pointer (some p))) w := by
  unfold execOp
  simp only [ho, hx]
  rfl
theorem ex_allocK {P : Program} {o : Oper} {a : Act} {w w' : World} {v : Value} (T : TypeId) (ho : o.op = .alloc T) (hr : (Instr.alloc T true (.tuple #[])).run P w = .ok v w') : (execOp a.eval o).run P w = .ok (.value v) w' := by
  unfold execOp
  simp only [ho, Sem.run_bind, hr, Result.andThen_ok, Sem.run_pure]
theorem ex_lenK {o : Oper} {a : Act} {w : World} (t : Nat) (ao : Option Addr) (n c : Nat) (ho : o.op = .call { callee := .builtin .len, args := #[.tmp t], argTypes := #[52] }) (hx : a.eval (.tmp t) = .slice ao n c) : (execOp a.eval o).run Try.prog w = .ok (.value (.int .i64 (n : Int))) w := by
  have hx' : a.tmps[t]?.getD undef = .slice ao n c := by simpa [Act.eval] using hx
  simp only [execOp, ho]
  simp [hx', go_sem]
theorem ex_convK {o : Oper} {a : Act} {w : World} (x : Operand) (n : Nat) (hn : n < 4294967296) (ho : o.op = .convert 3 23 x) (hx : a.eval x = .int .i64 (n : Int)) : (execOp a.eval o).run Try.prog w = .ok (.value (.int .u32 (n : Int))) w := by
  simp only [execOp, ho, hx]
  simp [go_sem]
  rw [IntKind.wrap_u32]
  omega
theorem ex_bsK {P : Program} {o : Oper} {a : Act} {w w' : World} (T : TypeId) (n : Nat) (parts : Array (Nat × Operand)) (ps : Array (Nat × Value)) (v : Value) (ho : o.op = .buildSlice T n parts) (hp : (parts.map fun (i, x) => (i, a.eval x)) = ps) (hr : (Instr.buildSlice T n ps).run P w = .ok v w') : (execOp a.eval o).run P w = .ok (.value v) w' := by
  unfold execOp
  simp only [ho, hp, Sem.run_bind, hr, Result.andThen_ok, Sem.run_pure]
theorem field_bk (b : Nat) (u : World) : (Instr.fieldAt 54 (.pointer (some ⟨b, 0, none⟩)) 0).run Try.prog u = .ok (.pointer (some ⟨b, 0, none⟩)) u ∧ (Instr.fieldAt 54 (.pointer (some ⟨b, 0, none⟩)) 1).run Try.prog u = .ok (.pointer (some ⟨b, 1, none⟩)) u := ⟨by kernel_rfl, by kernel_rfl⟩
theorem load_ss {u : World} {p : Addr} {ao : Option Addr} {n c : Nat} (h : u.cell? p = some (.slice ao n c)) : (Instr.loadAt 52 (.pointer (some p))).run Try.prog u = .ok (.slice ao n c) u := by
  simp [go_sem, h]
theorem load_sp {u : World} {p : Addr} {ao : Option Addr} {n c : Nat} (h : u.cell? p = some (.slice ao n c)) : (Instr.loadAt 49 (.pointer (some p))).run Try.prog u = .ok (.slice ao n c) u := by
  simp [go_sem, h]
theorem alloc_pd (u : World) : (Instr.alloc 80 true (.tuple #[])).run Try.prog u = .ok (.pointer (some ⟨u.heap.size, 0, none⟩)) (u.alloc (.cells #[.string ⟨#[]⟩, .int .u32 0] 80)) := by kernel_rfl
theorem build_pd (s : ByteArray) (n : Nat) (u : World) : (Instr.build 80 #[(0, .string s), (1, .int .u32 (n : Int))]).run Try.prog u = .ok (.agg #[.string s, .int .u32 (n : Int)]) u := by
  simp [Instr.build, run_underlying Try.underlying80, go_sem]

/-- What the operations of the mark yield. -/
def Fm (l : List Value) (B : Nat) (i : Nat) (v : Value) (u : World) : Prop :=
  if i = 13 then ∃ q, v = .pointer (some ⟨q, 0, none⟩) ∧ B ≤ q ∧ u.heap[q]? = some (.cells #[.string ⟨#[]⟩, .int .u32 0] 80 (0, 0)) else l[i]? = some v
theorem Fm.keeps (l : List Value) (B : Nat) : ∀ (i : Nat) (v : Value) (w w' : World), Fm l B i v w → Below w.heap.size w w' → Fm l B i v w' := fun i v w w' h hb => by
  unfold Fm at *
  split at h
  · rename_i h1
    rw [if_pos h1]
    obtain ⟨b, e, hB, hk⟩ := h
    exact ⟨b, e, hB, (hb.block b (Array.getElem?_eq_some_iff.1 hk).1).trans hk⟩
  · rename_i h1
    rw [if_neg h1]
    exact h
theorem Fm.dep {l : List Value} {B i : Nat} {a : Act} {t : Operand} {x y : Value} {w : World} (h : a.eval t = x ∧ Fm l B i x w) (h1 : i ≠ 13) (hy : l[i]? = some y) : a.eval t = y := by
  have h2 := h.2
  unfold Fm at h2
  rw [if_neg h1, hy] at h2
  rw [h.1]
  exact (Option.some.inj h2).symm
theorem wp_stillM {P : Program} {o : Oper} {a : Act} {W w : World} {Q : Exit → Act → World → Prop} {l : List Value} {B i : Nat} {t : Tmp} {v : Value} (hr : (execOp a.eval o).run P w = .ok (.value v) w) (ht : o.dst = some t) (h1 : i ≠ 13) (hv : l[i]? = some v) (hW : Below W.heap.size W w) :
    o.wp P a w (fun a' w' => ∃ v', a' = a.put (some t) v' ∧ Fm l B i v' w' ∧ Below W.heap.size W w' ∧ Below w.heap.size w w') Q :=
  wp_val hr (by rw [ht]; exact ⟨v, rfl, by unfold Fm; rw [if_neg h1]; exact hv, hW, Below.refl _ _⟩)
theorem lowK {s j : Nat} (h : s < 4) : (if j = 13 then 4 else 10 + j) ≠ s := by split <;> omega

theorem Keeps.set2 {S : Nat → Prop} {a b : World} (h : Keeps S a b) (g i j : Nat) (x y : Value) (hg : S g) : Keeps S a ((b.setCell ⟨g, i, none⟩ x).setCell ⟨g, j, none⟩ y) := (h.set ⟨g, i, none⟩ hg x).set ⟨g, j, none⟩ hg y
theorem rep_set (p : Pod) (L : List Pod) (k : Nat) (h : k < L.length) : (List.replicate k p ++ L.drop k).set k p = List.replicate (k + 1) p ++ L.drop (k + 1) := by
  rw [List.set_append_right _ _ (by simp), List.length_replicate, Nat.sub_self, List.drop_eq_getElem_cons h, List.set_cons_zero, List.replicate_succ', List.append_assoc]
  rfl
theorem rep_len (p : Pod) (L : List Pod) (k : Nat) (h : k ≤ L.length) : (List.replicate k p ++ L.drop k).length = L.length := by
  rw [List.length_append, List.length_replicate, List.length_drop]; omega

theorem load_pd {u : World} {q : Nat} {x y : Value} (h0 : u.cell? ⟨q, 0, none⟩ = some x) (h1 : u.cell? ⟨q, 1, none⟩ = some y) : (Instr.loadAt 80 (.pointer (some ⟨q, 0, none⟩))).run Try.prog u = .ok (.agg #[x, y]) u := by
  simp [Instr.loadAt, go_sem, h0, h1]
theorem build_4 (s : ByteArray) (n : Nat) (u : World) : (Instr.buildSlice 49 4 #[(0, .agg #[.string s, .int .u32 (n : Int)]), (1, .agg #[.string s, .int .u32 (n : Int)]), (2, .agg #[.string s, .int .u32 (n : Int)]), (3, .agg #[.string s, .int .u32 (n : Int)])]).run Try.prog u = .ok (.slice (some ⟨u.heap.size, 0, none⟩) 4 4) (u.alloc (.cells #[.string s, .int .u32 (n : Int), .string s, .int .u32 (n : Int), .string s, .int .u32 (n : Int), .string s, .int .u32 (n : Int)] 80)) := by
  obtain ⟨ie, hi, hz, hs, -⟩ := infoPd_at
  refine run_buildSlice u _ _ 4 _ _ ie _ Try.underlying49 hi hz (by rw [hs]; decide) (by rw [hs]; decide) ?_
  simp only [hs, show Array.range (4 * 2) = #[0, 1, 2, 3, 4, 5, 6, 7] from rfl]
  simp [Instr.fill, Value.cells]

/-- What the operations of the marks' append yield. -/
def Fa (l : List Value) (vm : Value) (B z : Nat) (p : Pod) (T : List Pod) (i : Nat) (v : Value) (u : World) : Prop :=
  (i = 9 → ∃ q, v = .slice (some ⟨q, 0, none⟩) 4 4 ∧ vm.ownBlock ≠ some q ∧ u.heap[q]? = some (.cells #[.string p.nm, .int .u32 (p.ad : Int), .string p.nm, .int .u32 (p.ad : Int), .string p.nm, .int .u32 (p.ad : Int), .string p.nm, .int .u32 (p.ad : Int)] 80 (0, 0))) ∧
  (i = 10 → OwnD u B v T ∧ NwB vm v z) ∧ (i ≠ 9 → i ≠ 10 → l[i]? = some v)
def Ia (vm : Value) (B : Nat) (Ps : List Pod) (w u : World) : Prop := Keeps (fun k => vm.ownBlock = some k) w u ∧ OwnD u B vm Ps
def Ra (vm : Value) (j : Nat) (u u' : World) : Prop := Keeps (fun k => vm.ownBlock = some k) u u' ∧ (j ≠ 10 → Below u.heap.size u u')
theorem Fa.keeps {l : List Value} {vm : Value} {B z : Nat} {p : Pod} {T : List Pod} {i j : Nat} {v : Value} {u u' : World} (hij : i ≠ j) (h : Fa l vm B z p T i v u) (hr : Ra vm j u u') : Fa l vm B z p T i v u' := by
  refine ⟨fun e => ?_, fun e => ?_, h.2.2⟩
  · obtain ⟨q, h1, h2, h3⟩ := h.1 e
    exact ⟨q, h1, h2, (hr.1.block q (Array.getElem?_eq_some_iff.1 h3).1 h2).trans h3⟩
  · obtain ⟨h1, h2⟩ := h.2.1 e
    exact ⟨h1.below (hr.2 (by omega)), h2⟩
theorem Fa.dep {l : List Value} {vm : Value} {B z : Nat} {p : Pod} {T : List Pod} {i : Nat} {a : Act} {t : Operand} {x y : Value} {w : World} (h : a.eval t = x ∧ Fa l vm B z p T i x w) (h1 : i ≠ 9) (h2 : i ≠ 10) (hy : l[i]? = some y) : a.eval t = y := by
  have h3 := h.2.2.2 h1 h2
  rw [hy] at h3
  rw [h.1]
  exact (Option.some.inj h3).symm
theorem wp_stillN {P : Program} {o : Oper} {a : Act} {W w : World} {Q : Exit → Act → World → Prop} {l : List Value} {vm : Value} {B z : Nat} {p : Pod} {T Ps : List Pod} {i : Nat} {t : Tmp} {v : Value} (hr : (execOp a.eval o).run P w = .ok (.value v) w) (ht : o.dst = some t) (h1 : i ≠ 9) (h2 : i ≠ 10) (hv : l[i]? = some v) (hI : Ia vm B Ps W w) :
    o.wp P a w (fun a' w' => ∃ v', a' = a.put (some t) v' ∧ Fa l vm B z p T i v' w' ∧ Ia vm B Ps W w' ∧ Ra vm i w w') Q :=
  wp_val hr (by rw [ht]; exact ⟨v, rfl, ⟨fun e => absurd e h1, fun e => absurd e h2, fun _ _ => hv⟩, hI, Keeps.refl _ _, fun _ => Below.refl _ _⟩)
theorem wp_appendK {P : Program} {o : Oper} {a : Act} {w : World} {K : Act → World → Prop} {Q : Exit → Act → World → Prop} (d s : Operand) (t t' : TypeId)
    (ho : o.op = .call { callee := .builtin .append, args := #[d, s], argTypes := #[t, t'] }) (v u : Value) (hd : a.eval d = v) (hs : a.eval s = u) {v' : Value} {w' : World}
    (hr : (Builtin.append_ #[t, t'] o.type #[v, u]).run P w = .ok v' w') (h : K (a.put o.dst v') w') : o.wp P a w K Q := by
  unfold Oper.wp execOp
  simp only [ho, resolve, invoke, builtin, Sem.run_bind, Sem.run_pure, Result.andThen_ok, List.map_toArray, List.map_cons, List.map_nil, hd, hs, hr]
  exact h

theorem name_big (n : Nat) (w : World) (hn : n < 4294967296) :
    Calls Try.prog 18 #[.int .i64 (n : Int)] w fun e w' => e = .returned (.string (nmN n)) ∧ Below w.heap.size w w' := by
  go_enter Try.func18, Try.ntmps18
  go_upto_region 3 with fail
  go_loopw [0, 3, 4] (fun a s i wr => ∃ (j m : Nat) (f : ByteArray), i = .int .i64 (j : Int) ∧ a = .int .i64 (m : Int) ∧ s = .string f ∧ j ≤ 6 ∧ m < 4294967296 ∧ Hid (m = n / 10 ^ j) ∧ Hid (f = nmF n j) ∧ Hid (Below w.heap.size w wr)) (fun _ _ i _ => 6 - (intOf i).toNat)
  case atStart => exact ⟨0, n, _, rfl, rfl, rfl, by omega, hn, hid (by simp), hid rfl, Below.refl _ _⟩
  case round =>
    obtain ⟨j, m, f, rfl, rfl, rfl, hj, hm, HM, HF, HB⟩ := hrel
    by_cases hlt : j < 6
    · have hlt' : (j : Int) < 6 := by omega
      have hcv : (convert 81 9 (.slice (some ⟨wr.heap.size, 0, none⟩) 1 1)).run Try.prog (wr.alloc (.cells #[.int .u8 (48 + (m : Int) % 10)] 5)) = .ok (.string (strOfNums [48 + (m : Int) % 10])) (wr.alloc (.cells #[.int .u8 (48 + (m : Int) % 10)] 5)) := by
        refine run_convert_bytes_arg _ 81 5 (by kernel_rfl) (by kernel_rfl) wr.heap.size 0 1 1 [48 + (m : Int) % 10] rfl (fun i hi => ?_) 9 (by kernel_rfl)
        have : i = 0 := by omega
        subst this
        rw [cell_of_row _ _ _ _ _ _ (heap_alloc_new wr _)]
        rfl
      have HFS : Hid (f.size = 1 + j) := by unfold Hid; rw [HF.out]; unfold nmF; simp [ByteArray.size]; omega
      have hfs : f.size ≤ 7 := by have := HFS.out; omega
      obtain ⟨sg, HSG⟩ : ∃ sg, Hid (sg = strOfNums [48 + (m : Int) % 10]) := ⟨_, rfl⟩
      have hsg : sg.size = 1 := by rw [HSG.out]; rfl
      rw [← HSG.out] at hcv
      have HNF : Hid (f ++ sg = nmF n (j + 1)) := by
        unfold Hid
        rw [HF.out, HSG.out]
        have e1 : (48 + (m : Int) % 10).toNat = 48 + n / 10 ^ j % 10 := by rw [← HM.out]; omega
        unfold nmF strOfNums
        rw [List.range_succ, List.map_append]
        simp only [List.map_cons, List.map_nil, e1]
        have e2 : ∀ A B : Array UInt8, (ByteArray.mk A) ++ (ByteArray.mk B) = ByteArray.mk (A ++ B) := fun A B => by
          apply ByteArray.ext
          simp
        rw [e2]
        congr 1
        simp [dg]
      have HMD : Hid (m / 10 = n / 10 ^ (j + 1)) := by unfold Hid; rw [HM.out, Nat.div_div_eq_div_mul, Nat.pow_succ]
      have hm10 : m / 10 < 4294967296 := by omega
      have HBB : Hid (Below w.heap.size w (wr.alloc (.cells #[.int .u8 (48 + (m : Int) % 10)] 5))) := HB.out.trans ((Below.refl _ _).alloc HB.out.size _)
      clear HF HM HSG HFS
      go_wp2_with fail
      go_roundw
      case rel => exact ⟨j + 1, m / 10, _, by go_num, by first | rfl | go_num, rfl, hlt, hm10, HMD, HNF, HBB⟩
      case measure => simp [intOf]; omega
    · have hlt' : ¬ (j : Int) < 6 := by omega
      have HE : Hid (f = nmN n) := by unfold Hid; rw [HF.out, show j = 6 by omega, nmF_end]
      go_wp2_with fail
      go_ret
      exact ⟨by rw [HE.out]; rfl, HB.out⟩

/-- What keep leaves. -/
def Kpd (w w' : World) (B bb : Nat) (vl vm v : Value) (Vs : List Value) : Prop :=
  ∃ vl' vm' Vs' Ps', Bk w' B bb vl' vm' Vs' Ps' ∧ Vs'.length = Vs.length + 4 ∧ (∀ k, fpB bb vl' vm' Vs' k → fpB bb vl vm Vs k ∨ v.ownBlock = some k ∨ w.heap.size ≤ k) ∧ Keeps (fun k => fpB bb vl vm Vs k ∨ v.ownBlock = some k) w w'

theorem keep_any (w : World) (B bb : Nat) (vl vm v : Value) (Vs : List Value) (Ps L : List Pod) (h : Bk w B bb vl vm Vs Ps) (hv : OwnD w B v L) (hn : ∀ k, v.ownBlock = some k → ¬ fpB bb vl vm Vs k) (hL : L.length ≤ 1024) (hbig : Vs.length + 4 < 4294967296) (hB : B ≤ w.heap.size) :
    Calls Try.prog 21 #[.pointer (some ⟨bb, 0, none⟩), v] w fun e w' => e = .returned (.tuple #[]) ∧ Kpd w w' B bb vl vm v Vs := by
  obtain ⟨al, nl, cl, rfl, HNL, hnlc, hclm⟩ := h.ls.shape
  obtain ⟨av, n, cv, rfl, HN, hnc, hcv, hnil⟩ := hv.shape
  have hnl : nl < 4294967292 := by have := HNL.out; omega
  obtain ⟨p, HP⟩ : ∃ p : Pod, Hid (p = ⟨nmN nl, nl⟩) := ⟨_, rfl⟩
  have HBK := hid h
  have HV := hid hv
  have hn' : ∀ k, fpB bb (.slice al nl cl) vm Vs k → ¬ Value.ownBlock (.slice av n cv) = some k := fun k hk e => hn k e hk
  have HNM : ∀ u : World, Hid (Calls Try.prog 18 #[.int .i64 (nl : Int)] u fun e w' => e = .returned (.string (nmN nl)) ∧ Below u.heap.size u w') := fun u => name_big nl u (by omega)
  have hn1024 : n ≤ 1024 := by have := HN.out; omega
  have HAV : Hid (cv = 0 ∨ ∃ g, av = some ⟨g, 0, none⟩) := by
    rcases hv.2 with ⟨e, -⟩ | ⟨g, cap, cur, e, -⟩
    · simp only [Value.slice.injEq] at e; exact .inl e.2.2
    · simp only [Value.slice.injEq] at e; exact .inr ⟨g, e.1⟩
  have HCB : Hid (∀ u : World, Below w.heap.size w u → u.cell? ⟨bb, 0, none⟩ = some (.slice al nl cl)) := fun u hu => (h.below hu).cells.1
  clear h hv
  go_enter Try.func21, Try.ntmps21
  go_upto_region 0 with fail
  refine wp_region_mono' 14 (fun i => if i = 13 then 4 else 10 + i) (Fm [.pointer (some ⟨bb, 0, none⟩), .pointer (some ⟨bb, 0, none⟩), .pointer (some ⟨bb, 0, none⟩), .slice al nl cl, .int .i64 (nl : Int), .string (nmN nl), .pointer (some ⟨bb, 0, none⟩), .pointer (some ⟨bb, 0, none⟩), .pointer (some ⟨bb, 0, none⟩), .slice al nl cl, .int .i64 (nl : Int), .int .u32 (nl : Int), .agg #[.string (nmN nl), .int .u32 (nl : Int)]] w.heap.size) (by kernel_rfl) (by kernel_rfl) (Fm.keeps _ _) ?_ ?_
  · simp only [List.take_succ_cons, List.take_zero, stepsOk]
    refine ⟨?_, ?_, ?_, ?_, ?_, ?_, ?_, ?_, ?_, ?_, ?_, ?_, ?_, ?_, trivial⟩
    · intro a u vs hb hold hdep
      exact wp_stillM (ex_move (.tmp 0) _ rfl (hold 0 (fun j _ => lowK (by decide)))) rfl (by decide) rfl hb
    · intro a u vs hb hold hdep
      exact wp_stillM (ex_nilK _ (.tmp 10) rfl (Fm.dep (hdep ⟨0, .data⟩ (by simp) rfl (by decide)) (by decide) rfl)) rfl (by decide) rfl hb
    · intro a u vs hb hold hdep
      exact wp_stillM (ex_field _ ⟨bb, 0, none⟩ (.tmp 11) 0 _ rfl (Fm.dep (hdep ⟨1, .data⟩ (by simp) rfl (by decide)) (by decide) rfl) (field_bk bb u).1) rfl (by decide) rfl hb
    · intro a u vs hb hold hdep
      exact wp_stillM (ex_load _ ⟨bb, 0, none⟩ (.tmp 12) _ rfl (Fm.dep (hdep ⟨2, .data⟩ (by simp) rfl (by decide)) (by decide) rfl) (load_ss (HCB.out u hb))) rfl (by decide) rfl hb
    · intro a u vs hb hold hdep
      exact wp_stillM (ex_lenK 13 al nl cl rfl (Fm.dep (hdep ⟨3, .data⟩ (by simp) rfl (by decide)) (by decide) rfl)) rfl (by decide) rfl hb
    · intro a u vs hb hold hdep
      have h0 := Fm.dep (hdep ⟨4, .data⟩ (by simp) rfl (by decide)) (by decide) rfl
      refine wp_call 18 _ _ rfl (enters_of Try.func18 (by kernel_rfl) rfl) #[.int .i64 (nl : Int)] (by simp only [List.map_toArray, List.map_cons, List.map_nil]; rw [show a.eval (.tmp 14) = _ from h0]) ?_
      refine (HNM u).out.mono ?_
      rintro _ u' ⟨rfl, hb'⟩
      exact ⟨_, rfl, _, rfl, rfl, hb.trans (hb'.mono hb.size), hb'⟩
    · intro a u vs hb hold hdep
      exact wp_stillM (ex_move (.tmp 0) _ rfl (hold 0 (fun j _ => lowK (by decide)))) rfl (by decide) rfl hb
    · intro a u vs hb hold hdep
      exact wp_stillM (ex_nilK _ (.tmp 16) rfl (Fm.dep (hdep ⟨6, .data⟩ (by simp) rfl (by decide)) (by decide) rfl)) rfl (by decide) rfl hb
    · intro a u vs hb hold hdep
      exact wp_stillM (ex_field _ ⟨bb, 0, none⟩ (.tmp 17) 0 _ rfl (Fm.dep (hdep ⟨7, .data⟩ (by simp) rfl (by decide)) (by decide) rfl) (field_bk bb u).1) rfl (by decide) rfl hb
    · intro a u vs hb hold hdep
      exact wp_stillM (ex_load _ ⟨bb, 0, none⟩ (.tmp 18) _ rfl (Fm.dep (hdep ⟨8, .data⟩ (by simp) rfl (by decide)) (by decide) rfl) (load_ss (HCB.out u hb))) rfl (by decide) rfl hb
    · intro a u vs hb hold hdep
      exact wp_stillM (ex_lenK 19 al nl cl rfl (Fm.dep (hdep ⟨9, .data⟩ (by simp) rfl (by decide)) (by decide) rfl)) rfl (by decide) rfl hb
    · intro a u vs hb hold hdep
      exact wp_stillM (ex_convK (.tmp 20) nl (by omega) rfl (Fm.dep (hdep ⟨10, .data⟩ (by simp) rfl (by decide)) (by decide) rfl)) rfl (by decide) rfl hb
    · intro a u vs hb hold hdep
      have e1 := Fm.dep (hdep ⟨5, .data⟩ (by simp) rfl (by decide)) (by decide) rfl
      have e2 := Fm.dep (hdep ⟨11, .data⟩ (by simp) rfl (by decide)) (by decide) rfl
      exact wp_stillM (ex_build _ _ #[(0, .string (nmN nl)), (1, .int .u32 (nl : Int))] _ rfl (by simp only [List.map_toArray, List.map_cons, List.map_nil]; rw [show a.eval (.tmp 15) = _ from e1, show a.eval (.tmp 21) = _ from e2]) (build_pd _ _ u)) rfl (by decide) rfl hb
    · intro a u vs hb hold hdep
      have hbA : Below u.heap.size u (u.alloc (.cells #[.string ⟨#[]⟩, .int .u32 0] 80)) := (Below.refl _ _).alloc (Nat.le_refl _) _
      exact wp_val (ex_allocK _ rfl (alloc_pd u)) ⟨_, rfl, ⟨u.heap.size, rfl, hb.size, heap_alloc_new u _⟩, hb.trans (hbA.mono hb.size), hbA⟩
  intro vs u hb hF
  have e12 : vs 12 = .agg #[.string (nmN nl), .int .u32 (nl : Int)] := by
    have h0 := hF 12 (by decide)
    unfold Fm at h0
    rw [if_neg (by decide)] at h0
    exact (Option.some.inj h0).symm
  obtain ⟨q, e13, hq, hrq⟩ : ∃ q, vs 13 = .pointer (some ⟨q, 0, none⟩) ∧ w.heap.size ≤ q ∧ u.heap[q]? = some (.cells #[.string ⟨#[]⟩, .int .u32 0] 80 (0, 0)) := hF 13 (by decide)
  generalize vs 0 = y0
  generalize vs 1 = y1
  generalize vs 2 = y2
  generalize vs 3 = y3
  generalize vs 4 = y4
  generalize vs 5 = y5
  generalize vs 6 = y6
  generalize vs 7 = y7
  generalize vs 8 = y8
  generalize vs 9 = y9
  generalize vs 10 = y10
  generalize vs 11 = y11
  have f0 : u.cell? ⟨q, 0, none⟩ = some (.string ⟨#[]⟩) := by rw [cell_of_row _ _ _ _ _ _ hrq]; rfl
  have f1 : u.cell? ⟨q, 1, none⟩ = some (.int .u32 0) := by rw [cell_of_row _ _ _ _ _ _ hrq]; rfl
  have f2 : u.frozen? ⟨q, 0, none⟩ = false := frozen_of_row _ _ _ _ _ hrq
  have f3 : u.frozen? ⟨q, 1, none⟩ = false := frozen_of_row _ _ _ _ _ hrq
  obtain ⟨w1, HW1⟩ : ∃ w1, Hid (w1 = (u.setCell ⟨q, 0, none⟩ (.string (nmN nl))).setCell ⟨q, 1, none⟩ (.int .u32 (nl : Int))) := ⟨_, rfl⟩
  have HK1 : Hid (Kv w w1 B (.slice av n cv) p q []) := by
    unfold Hid
    rw [HW1.out, HP.out]
    refine ⟨by rw [set_cells (set_cells hrq)]; rfl, hq, ?_, fun x hx => by cases hx⟩
    refine Keeps.mono (S := fun k => k = q) ((Keeps.of hb).set2 q 0 1 _ _ rfl) fun k hk e => by omega
  have HV1 : Hid (OwnD w1 B (.slice av n cv) L) := by
    unfold Hid
    rw [HW1.out]
    refine HV.out.keeps (S := fun k => k = q) ((Keeps.of hb).set2 q 0 1 _ _ rfl) fun k hk e => ?_
    have := (HV.out.lt hk).2
    omega
  simp only [List.drop_succ_cons, List.drop_zero, puts, List.range, List.range.loop, List.foldr, if_true, Act.put, e12, e13, List.setIfInBounds_toArray, List.set_cons_succ, List.set_cons_zero]
  clear e12 e13 hF hrq hb
  go_upto_region 1 with fail
  rw [← HW1.out]
  clear f0 f1 f2 f3 HW1
  go_upto_region 2 with fail
  go_loopw [5] (fun i wr => ∃ k : Nat, i = .int .i64 (k : Int) ∧ k ≤ n ∧ Hid (Kv w wr B (.slice av n cv) p q []) ∧ Hid (OwnD wr B (.slice av n cv) (List.replicate k p ++ L.drop k))) (fun i _ => n - (intOf i).toNat)
  case atStart => exact ⟨0, rfl, Nat.zero_le _, HK1, by simpa using HV1⟩
  case round =>
    obtain ⟨k, rfl, hk, HK, HO⟩ := hrel
    by_cases hlt : k < n
    · have hlt' : (k : Int) < (n : Int) := int_lt hlt
      have hkL : k < L.length := by have := HN.out; omega
      obtain ⟨g, eg, hgl, hcl⟩ := HO.out.at (i := k) (p := L[k]) (by rw [List.getElem?_append_right (by simp), List.length_replicate, Nat.sub_self, List.getElem?_drop, Nat.add_zero, List.getElem?_eq_getElem hkL])
      subst eg
      obtain ⟨c0, c1, c2, c3⟩ := hcl wr rfl
      obtain ⟨d0, d1⟩ := HK.out.cells
      obtain ⟨w2, HW2⟩ : ∃ w2, Hid (w2 = (wr.setCell ⟨g, k * 2, none⟩ (.string p.nm)).setCell ⟨g, k * 2 + 1, none⟩ (.int .u32 (p.ad : Int))) := ⟨_, rfl⟩
      have hgq : g ≠ q := by
        have h1 := (HV.out.lt (g := g) rfl).2
        have h2 := HK.out.low
        omega
      have HO2 : Hid (OwnD w2 B (.slice (some ⟨g, 0, none⟩) n cv) (List.replicate (k + 1) p ++ L.drop (k + 1))) := by
        have h1 := HO.out.put (k := k) (by rw [rep_len p L k (by omega)]; exact hkL) p
        rw [rep_set p L k hkL, ← HW2.out] at h1
        exact h1
      have HK2 : Hid (Kv w w2 B (.slice (some ⟨g, 0, none⟩) n cv) p q []) := by
        unfold Hid
        rw [HW2.out]
        refine ⟨?_, HK.out.low, HK.out.kp.set2 g _ _ _ _ rfl, fun x hx => by cases hx⟩
        refine (Keeps.block (S := fun k => k = g) ((Keeps.refl _ _).set2 g _ _ _ _ rfl) q (Array.getElem?_eq_some_iff.1 HK.out.row).1 (fun e => hgq e.symm)).trans HK.out.row
      clear hcl hgl
      go_wp2_with fail
      rw [← HW2.out]
      go_roundw
      case rel => exact ⟨k + 1, by go_num, hlt, HK2, HO2⟩
      case measure => simp [intOf]; omega
    · have hlt' : ¬ (k : Int) < (n : Int) := int_nlt hlt
      have hkn : k = n := by omega
      subst hkn
      have HKA : Hid (Kv w wr B (.slice av k cv) p q [(.slice av k cv, k)]) := by
        refine ⟨HK.out.row, HK.out.low, HK.out.kp, fun x hx => ?_⟩
        rw [List.mem_singleton.1 hx]
        have h1 := HO.out
        rw [List.drop_of_length_le (by have := HN.out; omega), List.append_nil] at h1
        refine ⟨h1, fun g hg => .inl hg, fun e => ?_⟩
        have h2 := (HV.out.lt e).2
        have h3 := HK.out.low
        omega
      obtain ⟨d0, d1⟩ := HKA.out.cells
      obtain ⟨v1, w3, hap1, hk3, -⟩ := HKA.out.more (List.mem_singleton.2 rfl) 1 (by decide) (by omega) hB #[.string p.nm, .int .u32 (p.ad : Int)] rfl
      obtain ⟨a1, n1, c1, rfl, -, -, -, -⟩ := (hk3.us _ (List.mem_cons_self)).1.shape
      have HAP1 := hid hap1
      have HK3 := hid hk3
      clear HO HKA hap1 hk3
      go_upto_region 6 with (first | (at_builtin; refine wpList_append_run _ rfl _ _ 49 49 rfl _ _ rfl rfl HAP1.out ?_) | fail)
      clear d0 d1 HAP1
      obtain ⟨d0, d1⟩ := HK3.out.cells
      obtain ⟨v2, w4, hap2, hk4, -⟩ := HK3.out.more (u := .slice av k cv) (k := k) (by simp) 2 (by decide) (by omega) hB #[.string p.nm, .int .u32 (p.ad : Int), .string p.nm, .int .u32 (p.ad : Int)] rfl
      obtain ⟨a2, n2, c2, rfl, -, -, -, -⟩ := (hk4.us _ (List.mem_cons_self)).1.shape
      have HAP2 := hid hap2
      have HK4 := hid (hk4.sub (Us' := [(.slice av k cv, k), (.slice a2 n2 c2, k + 2), (.slice a1 n1 c1, k + 1), (.slice av k cv, k)]) (by simp))
      clear hap2 hk4 HK3
      go_upto_region 7 with (first | (at_builtin; refine wpList_append_run _ rfl _ _ 49 49 rfl _ _ rfl rfl HAP2.out ?_) | fail)
      clear d0 d1 HAP2
      go_upto_region 9 with fail
      go_loopw [8, 9] (fun g3 i wr => ∃ j : Nat, i = .int .i64 (j : Int) ∧ j ≤ min (cv - k) 70000 ∧ g3 = .slice av (k + j) cv ∧ Hid (Kv w wr B (.slice av k cv) p q [(.slice av (k + j) cv, k + j), (.slice a2 n2 c2, k + 2), (.slice a1 n1 c1, k + 1), (.slice av k cv, k)])) (fun _ i _ => min (cv - k) 70000 - (intOf i).toNat)
      case atStart => exact ⟨0, rfl, Nat.zero_le _, rfl, HK4⟩
      case round =>
        obtain ⟨j, rfl, hj, rfl, HKj⟩ := hrel
        have hwr : wrap64 ((cv : Int) - (k : Int)) = (cv : Int) - (k : Int) := by
          have h1 := hcv
          unfold maxLen at h1
          exact IntWalk.wrap64_in _ (by omega)
        by_cases hc : (j : Int) < min (wrap64 ((cv : Int) - (k : Int))) 70000
        · have hjm : j < min (cv - k) 70000 := by rw [hwr] at hc; omega
          have hroom : k + j + 1 ≤ cv := by omega
          obtain ⟨g, eg⟩ : ∃ g, av = some ⟨g, 0, none⟩ := by
            rcases HAV.out with h0 | h0
            · omega
            · exact h0
          subst eg
          obtain ⟨v3, w5, hap3, hk5, hr3⟩ := HKj.out.more (u := .slice (some ⟨g, 0, none⟩) (k + j) cv) (k := k + j) (by simp) 1 (by decide) (by omega) hB #[.string p.nm, .int .u32 (p.ad : Int)] rfl
          obtain rfl := hr3 g cv rfl hroom
          have HAP3 := hid hap3
          have HK5 := hid (hk5.sub (Us' := [(.slice (some ⟨g, 0, none⟩) (k + j + 1) cv, k + j + 1), (.slice a2 n2 c2, k + 2), (.slice a1 n1 c1, k + 1), (.slice (some ⟨g, 0, none⟩) k cv, k)]) (by simp))
          obtain ⟨d0, d1⟩ := HKj.out.cells
          clear hap3 hk5 hr3
          go_wp2_with (first | (at_builtin; refine wpList_append_run _ rfl _ _ 49 49 rfl _ _ rfl rfl HAP3.out ?_) | fail)
          go_roundw
          case rel => exact ⟨j + 1, by go_num, hjm, rfl, HK5⟩
          case measure => simp [intOf]; omega
        · have HBR := hid (HBK.out.keeps HKj.out.kp hn')
          have hBr : B ≤ wr.heap.size := by have := HKj.out.kp.size; omega
          obtain ⟨vl', w6, hap, ⟨x0, c0⟩, f0, hrow, hown, hnw, hkp⟩ := HBR.out.lists [.slice av k cv, .slice a1 n1 c1, .slice a2 n2 c2, .slice av (k + j) cv] #[.slice av k cv, .slice a1 n1 c1, .slice a2 n2 c2, .slice av (k + j) cv] rfl (fun x hx => by
            simp only [List.mem_cons, List.not_mem_nil, or_false] at hx
            rcases hx with rfl | rfl | rfl | rfl <;> exact ⟨_, _, _, rfl⟩) 4 rfl (by decide) hBr (by omega)
          obtain ⟨al', nl', cl', rfl, -, -, -⟩ := hown.shape
          obtain ⟨b0, -, -, -⟩ := HBR.out.cells
          obtain ⟨w7, HW7⟩ : ∃ w7, Hid (w7 = w6.setCell ⟨bb, 0, none⟩ (.slice al' nl' cl')) := ⟨_, rfl⟩
          rw [← HW7.out] at hrow hown hkp
          have HAP := hid hap
          have HR7 := hid hrow
          have HO7 := hid hown
          have HN7 := hid hnw
          have HK7 := hid hkp
          have HM7 : Hid (OwnD w7 B vm Ps) := HBR.out.ms.keeps HK7.out fun k hk e => by
            rcases e with rfl | e
            · exact (HBR.out.ne HBR.out.ms).1 hk
            · exact (HBR.out.ne HBR.out.ms).2 k e hk
          have HQ7 : Hid (w7.heap[q]? = some (.cells #[.string p.nm, .int .u32 (p.ad : Int)] 80 (0, 0))) := by
            refine (HK7.out.block q (Array.getElem?_eq_some_iff.1 HKj.out.row).1 fun e => ?_).trans HKj.out.row
            have h1 := HKj.out.low
            rcases e with e | e
            · have := (HBK.out.lt (.inl rfl)).2; omega
            · have := (HBK.out.lt (.inr (.inl e))).2; omega
          clear hap hrow hown hnw hkp
          go_upto_region 13 with (first | (at_builtin; refine wpList_append_run _ rfl _ _ 52 52 rfl _ _ rfl rfl HAP.out ?_) | fail)
          rw [← HW7.out]
          clear HAP b0 c0 f0 HW7
          obtain ⟨am, nm, cm, rfl, HNM2, -, -, -⟩ := HM7.out.shape
          refine wp_region_facts' 11 (fun i => 70 + i) (Fa [.pointer (some ⟨bb, 0, none⟩), .pointer (some ⟨bb, 0, none⟩), .pointer (some ⟨bb, 0, none⟩), .pointer (some ⟨bb, 1, none⟩), .slice am nm cm, .agg #[.string p.nm, .int .u32 (p.ad : Int)], .agg #[.string p.nm, .int .u32 (p.ad : Int)], .agg #[.string p.nm, .int .u32 (p.ad : Int)], .agg #[.string p.nm, .int .u32 (p.ad : Int)]] (.slice am nm cm) B w7.heap.size p (Ps ++ List.replicate 4 p)) (Ia (.slice am nm cm) B Ps w7) (Ra (.slice am nm cm)) (by kernel_rfl) (by kernel_rfl) ⟨Keeps.of ⟨rfl, rfl, rfl, Nat.le_refl _, fun _ _ => rfl⟩, HM7.out.below ⟨rfl, rfl, rfl, Nat.le_refl _, fun _ _ => rfl⟩⟩ (fun i j v w w' hij hf _ hr => Fa.keeps hij hf hr) ?_ ?_
          · have hbm : Value.ownBlock (.slice am nm cm) ≠ some bb := (HBR.out.ne HBR.out.ms).1
            have hqm : Value.ownBlock (.slice am nm cm) ≠ some q := fun e => by
              have h1 := (HBK.out.lt (.inr (.inr (.inl e)))).2
              have h2 := HKj.out.low
              omega
            have hbl := (Array.getElem?_eq_some_iff.1 HR7.out).1
            have hql := (Array.getElem?_eq_some_iff.1 HQ7.out).1
            have LM : ∀ u, Ia (.slice am nm cm) B Ps w7 u → u.cell? ⟨bb, 1, none⟩ = some (.slice am nm cm) := fun u hu => by
              rw [cell_of_row _ _ _ _ _ _ ((hu.1.block bb hbl hbm).trans HR7.out)]; rfl
            have LP : ∀ u, Ia (.slice am nm cm) B Ps w7 u → (Instr.loadAt 80 (.pointer (some ⟨q, 0, none⟩))).run Try.prog u = .ok (.agg #[.string p.nm, .int .u32 (p.ad : Int)]) u := fun u hu => by
              have hr := (hu.1.block q hql hqm).trans HQ7.out
              exact load_pd (by rw [cell_of_row _ _ _ _ _ _ hr]; rfl) (by rw [cell_of_row _ _ _ _ _ _ hr]; rfl)
            simp only [List.take_succ_cons, List.take_zero, stepsOk]
            refine ⟨?_, ?_, ?_, ?_, ?_, ?_, ?_, ?_, ?_, ?_, ?_, trivial⟩
            · intro a u vs hb hold hdep
              exact wp_stillN (ex_move (.tmp 0) _ rfl (hold 0 (fun j _ => low (by decide)))) rfl (by decide) (by decide) rfl hb
            · intro a u vs hb hold hdep
              exact wp_stillN (ex_move (.tmp 0) _ rfl (hold 0 (fun j _ => low (by decide)))) rfl (by decide) (by decide) rfl hb
            · intro a u vs hb hold hdep
              exact wp_stillN (ex_nilK _ (.tmp 71) rfl (Fa.dep (hdep ⟨1, .data⟩ (by simp) rfl (by decide)) (by decide) (by decide) rfl)) rfl (by decide) (by decide) rfl hb
            · intro a u vs hb hold hdep
              exact wp_stillN (ex_field _ ⟨bb, 0, none⟩ (.tmp 72) 1 _ rfl (Fa.dep (hdep ⟨2, .data⟩ (by simp) rfl (by decide)) (by decide) (by decide) rfl) (field_bk bb u).2) rfl (by decide) (by decide) rfl hb
            · intro a u vs hb hold hdep
              exact wp_stillN (ex_load _ ⟨bb, 1, none⟩ (.tmp 73) _ rfl (Fa.dep (hdep ⟨3, .data⟩ (by simp) rfl (by decide)) (by decide) (by decide) rfl) (load_sp (LM u hb))) rfl (by decide) (by decide) rfl hb
            · intro a u vs hb hold hdep
              exact wp_stillN (ex_load _ ⟨q, 0, none⟩ (.tmp 4) _ rfl (hold 4 (fun j _ => low (by decide))) (LP u hb)) rfl (by decide) (by decide) rfl hb
            · intro a u vs hb hold hdep
              exact wp_stillN (ex_load _ ⟨q, 0, none⟩ (.tmp 4) _ rfl (hold 4 (fun j _ => low (by decide))) (LP u hb)) rfl (by decide) (by decide) rfl hb
            · intro a u vs hb hold hdep
              exact wp_stillN (ex_load _ ⟨q, 0, none⟩ (.tmp 4) _ rfl (hold 4 (fun j _ => low (by decide))) (LP u hb)) rfl (by decide) (by decide) rfl hb
            · intro a u vs hb hold hdep
              exact wp_stillN (ex_load _ ⟨q, 0, none⟩ (.tmp 4) _ rfl (hold 4 (fun j _ => low (by decide))) (LP u hb)) rfl (by decide) (by decide) rfl hb
            · intro a u vs hb hold hdep
              have e1 := Fa.dep (hdep ⟨5, .data⟩ (by simp) rfl (by decide)) (by decide) (by decide) rfl
              have e2 := Fa.dep (hdep ⟨6, .data⟩ (by simp) rfl (by decide)) (by decide) (by decide) rfl
              have e3 := Fa.dep (hdep ⟨7, .data⟩ (by simp) rfl (by decide)) (by decide) (by decide) rfl
              have e4 := Fa.dep (hdep ⟨8, .data⟩ (by simp) rfl (by decide)) (by decide) (by decide) rfl
              have hbA : Below u.heap.size u (u.alloc (.cells #[.string p.nm, .int .u32 (p.ad : Int), .string p.nm, .int .u32 (p.ad : Int), .string p.nm, .int .u32 (p.ad : Int), .string p.nm, .int .u32 (p.ad : Int)] 80)) := (Below.refl _ _).alloc (Nat.le_refl _) _
              refine wp_val (ex_bsK _ _ _ #[(0, .agg #[.string p.nm, .int .u32 (p.ad : Int)]), (1, .agg #[.string p.nm, .int .u32 (p.ad : Int)]), (2, .agg #[.string p.nm, .int .u32 (p.ad : Int)]), (3, .agg #[.string p.nm, .int .u32 (p.ad : Int)])] _ rfl (by simp only [List.map_toArray, List.map_cons, List.map_nil]; rw [show a.eval (.tmp 75) = _ from e1, show a.eval (.tmp 76) = _ from e2, show a.eval (.tmp 77) = _ from e3, show a.eval (.tmp 78) = _ from e4]) (build_4 _ _ u)) ⟨_, rfl, ⟨fun _ => ⟨u.heap.size, rfl, fun e => ?_, heap_alloc_new u _⟩, fun e => (by cases e), fun e => absurd rfl e⟩, ⟨hb.1.trans (Keeps.of hbA), hb.2.below hbA⟩, Keeps.of hbA, fun _ => hbA⟩
              have := (hb.2.lt e).2
              omega
            · intro a u vs hb hold hdep
              have e1 := Fa.dep (hdep ⟨4, .data⟩ (by simp) rfl (by decide)) (by decide) (by decide) rfl
              have d9 := hdep ⟨9, .data⟩ (by simp) rfl (by decide)
              obtain ⟨q2, e2, hq2, hr2⟩ := d9.2.1 rfl
              obtain ⟨v', w', hr, ho, hg, hnw, hold2⟩ := append_pods2 u 49 B (.slice am nm cm) Ps (List.replicate 4 p) q2 4 4 hb.2 rfl (by decide) (fun j x hj => by rw [cell_of_row _ _ _ _ _ _ hr2, ← Array.getElem?_toList]; exact hj) (by have := hb.1.size; have := HK7.out.size; omega) (by have := HBR.out.len; omega)
              have hkg : Keeps (fun k => Value.ownBlock (.slice am nm cm) = some k) u w' := Keeps.grown hg fun k e => e
              refine wp_appendK (.tmp 74) (.tmp 79) 49 49 rfl _ _ e1 (d9.1.trans e2) hr ⟨_, rfl, ⟨fun e => (by cases e), fun _ => ⟨ho, fun g hgg => (hnw g hgg).imp id fun h => Nat.le_trans hb.1.size h⟩, fun _ e => absurd rfl e⟩, ⟨hb.1.trans hkg, hold2⟩, hkg, fun e => absurd rfl e⟩
          intro vs2 u2 hI hF2
          have e0 : vs2 0 = .pointer (some ⟨bb, 0, none⟩) := (Option.some.inj ((hF2 0 (by decide)).2.2 (by decide) (by decide))).symm
          obtain ⟨ho10, hn10⟩ := (hF2 10 (by decide)).2.1 rfl
          obtain ⟨am', nm', cm', e10, -, -, -, -⟩ := ho10.shape
          rw [e10] at ho10 hn10
          have hbm : Value.ownBlock (.slice am nm cm) ≠ some bb := (HBR.out.ne HBR.out.ms).1
          have hru := (hI.1.block bb (Array.getElem?_eq_some_iff.1 HR7.out).1 hbm).trans HR7.out
          have f1 : u2.cell? ⟨bb, 1, none⟩ = some (.slice am nm cm) := by rw [cell_of_row _ _ _ _ _ _ hru]; rfl
          have f2 : u2.frozen? ⟨bb, 1, none⟩ = false := frozen_of_row _ _ _ _ _ hru
          have HEND : Hid (Kpd w (u2.setCell ⟨bb, 1, none⟩ (.slice am' nm' cm')) B bb (.slice al nl cl) (.slice am nm cm) (.slice av k cv) Vs) := by
            have hus : ∀ x ∈ ([.slice av k cv, .slice a1 n1 c1, .slice a2 n2 c2, .slice av (k + j) cv] : List Value), (∃ n, OwnD wr B x (List.replicate n p)) ∧ ∀ g, x.ownBlock = some g → Value.ownBlock (.slice av k cv) = some g ∨ w.heap.size ≤ g := fun x hx => by
              simp only [List.mem_cons, List.not_mem_nil, or_false] at hx
              rcases hx with rfl | rfl | rfl | rfl
              · have := HKj.out.us (.slice av k cv, k) (by simp)
                exact ⟨⟨_, this.1⟩, this.2.1⟩
              · have := HKj.out.us (.slice a1 n1 c1, k + 1) (by simp)
                exact ⟨⟨_, this.1⟩, this.2.1⟩
              · have := HKj.out.us (.slice a2 n2 c2, k + 2) (by simp)
                exact ⟨⟨_, this.1⟩, this.2.1⟩
              · have := HKj.out.us (.slice av (k + j) cv, k + j) (by simp)
                exact ⟨⟨_, this.1⟩, this.2.1⟩
            have hs1 := HKj.out.kp.size
            have hs2 := HK7.out.size
            refine ⟨_, _, _, _, HBR.out.done (p := p) (fun x hx => (hus x hx).1) (fun x hx k' hk' hf => ?_) HR7.out HO7.out HK7.out hI.1 ho10 hn10, by simp, fun x hx => ?_, ?_⟩
            · rcases (hus x hx).2 k' hk' with e | e
              · exact hn k' e hf
              · have := (HBK.out.lt hf).2
                omega
            · rcases hx with rfl | hx | hx | ⟨y, hy, hx⟩
              · exact .inl (.inl rfl)
              · rcases HN7.out x hx with e | e
                · exact .inl (.inr (.inl e))
                · exact .inr (.inr (by omega))
              · rcases hn10 x hx with e | e
                · exact .inl (.inr (.inr (.inl e)))
                · exact .inr (.inr (by omega))
              · rcases List.mem_append.1 hy with hy | hy
                · exact .inl (.inr (.inr (.inr ⟨y, hy, hx⟩)))
                · exact .inr ((hus y hy).2 x hx)
            · refine Keeps.set (Keeps.trans (HKj.out.kp.mono fun x _ e => .inr e) (Keeps.trans (HK7.out.mono fun x _ e => .inl ?_) (hI.1.mono fun x _ e => .inl (.inr (.inr (.inl e)))))) ⟨bb, 1, none⟩ (.inl (.inl rfl)) _
              rcases e with e | e
              · exact .inl e
              · exact .inr (.inl e)
          generalize vs2 1 = z1
          generalize vs2 2 = z2
          generalize vs2 3 = z3
          generalize vs2 4 = z4
          generalize vs2 5 = z5
          generalize vs2 6 = z6
          generalize vs2 7 = z7
          generalize vs2 8 = z8
          generalize vs2 9 = z9
          simp only [List.drop_succ_cons, List.drop_zero, puts, List.range, List.range.loop, List.foldr, if_true, Act.put, e0, e10, List.setIfInBounds_toArray, List.set_cons_succ, List.set_cons_zero]
          clear e0 e10 hF2 hI ho10 hn10 hru
          go_wp2_with fail
          exact bodyPost_end (results_none Try.results21 _ _ _) rfl ⟨rfl, HEND.out⟩
end Go.Proofs.Ytjilahbkolcekab
