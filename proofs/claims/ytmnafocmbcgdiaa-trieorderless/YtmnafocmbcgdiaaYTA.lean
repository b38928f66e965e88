/-
  told.
-/
import Derived.Test.YtmnafocmbcgdiaaXEA
import Derived.Test.YtmnafocmbcgdiaaWOA
import Derived.Test.YtmnafocmbcgdiaaVT
namespace Go.Proofs.Ytmnafocmbcgdiaa
open Go.ChangeShapes Go.WideShapes Go.ChangeAt Go.RowKit Go.Shelf Tri N
attribute [local go_sem] Oper.semAt_some
set_option maxHeartbeats 8000000
set_option maxRecDepth 100000

theorem eq_seqT (f : FuncId) (a b : Array Value) (u : World) : (binOp .eql 60 (.func (.func f) a b) .nilFunc).run Try.prog u = .ok (.bool false) u := by
  kernel_rfl

def iv (e : K × Int) : Value := .int .i64 e.2

def keysTo (E : List (K × Int)) (i : Nat) : List Value := kcs ((E.take i).map Prod.fst)
def intsTo (E : List (K × Int)) (i : Nat) : List Value := (E.take i).map iv

/-- The two lists under way. -/
structure ToldI (w w2 : World) (E : List (K × Int)) (i j : Nat) (W : World) (vp vi : Value) : Prop where
  sz : w2.heap.size ≤ W.heap.size
  ch : Chg (fun b => b = w.heap.size ∨ b = w.heap.size + 1) w2 W
  bp : W.heap[w.heap.size]? = some (.cells #[vp] 22)
  bi : W.heap[w.heap.size + 1]? = some (.cells #[vi] 44)
  rp : W.ownsRow w2.heap.size 32 2 vp i (keysTo E i)
  ri : W.ownsRow w2.heap.size 3 1 vi j (intsTo E j)

/-- Behind an append and the store of its slice into its box. -/
theorem grew {W w6 : World} {tmp : Obj} {v u : Value} (B : Nat) (hg : (W.alloc tmp).grownBy w6 v.ownBlock) : Chg (fun b => b = B ∨ v.ownBlock = some b) W (w6.setCell ⟨B, 0, none⟩ u) := by
  have hs : W.heap.size ≤ w6.heap.size := Nat.le_trans (by simp) hg.size
  have bt := But.set B 0 w6 u
  refine ⟨bt.os.trans hg.os, bt.tape.trans hg.tape, bt.output.trans hg.output, Nat.le_trans hs bt.size, fun j hj hn => ?_⟩
  rw [bt.block j (by omega) (fun e => hn (.inl e)), hg.block j (by simp; omega) (fun e => hn (.inr e.symm))]
  exact Below.heap_alloc _ _ _ hj

theorem row_own {W : World} {base : Nat} {e : TypeId} {size n : Nat} {v : Value} {xs : List Value} (h : W.ownsRow base e size v n xs) {b : Nat} (hb : v.ownBlock = some b) : base ≤ b ∧ ∃ cs, W.heap[b]? = some (.cells cs e) := by
  rcases h.2 with ⟨hv, _⟩ | ⟨g, cap, cur, hv, h1, h2, _⟩
  · rw [hv] at hb; cases hb
  · rw [hv] at hb
    obtain rfl : g = b := by simpa [Value.ownBlock] using hb
    exact ⟨h1, cur, h2⟩

theorem row_chg {W W' : World} {base : Nat} {e : TypeId} {size n : Nat} {v : Value} {xs : List Value} {X : Nat → Prop} (h : W.ownsRow base e size v n xs) (hc : Chg X W W') (hx : ∀ b, v.ownBlock = some b → ¬ X b) : W'.ownsRow base e size v n xs := by
  refine ⟨h.1, ?_⟩
  rcases h.2 with h1 | ⟨g, cap, cur, hv, hb, hg, hrest⟩
  · exact .inl h1
  · exact .inr ⟨g, cap, cur, hv, hb, (hc.block g (Array.getElem?_eq_some_iff.1 hg).1 (hx g (by rw [hv]; rfl))).trans hg, hrest⟩

theorem row_base {W : World} {b c : Nat} {e : TypeId} {size n : Nat} {v : Value} {xs : List Value} (h : W.ownsRow b e size v n xs) (hb : c ≤ b) : W.ownsRow c e size v n xs := by
  refine ⟨h.1, ?_⟩
  rcases h.2 with h1 | ⟨g, cap, cur, hv, hb', hrest⟩
  · exact .inl h1
  · exact .inr ⟨g, cap, cur, hv, Nat.le_trans hb hb', hrest⟩

theorem cells_ty {W : World} {b : Nat} {cs ds : Array Value} {s t : TypeId} (h1 : W.heap[b]? = some (.cells cs s)) (h2 : W.heap[b]? = some (.cells ds t)) : s = t := by
  rw [h1] at h2
  injection h2 with h2
  injection h2

/-- Rows that are no iterator's stay an iterator's business apart. -/
theorem grew_keeps {w2 W W' : World} {B : Nat} {v : Value} {e : TypeId} {size n : Nat} {xs : List Value} (h : W.ownsRow w2.heap.size e size v n xs) (hB : B < w2.heap.size) (hc : Chg (fun b => b = B ∨ v.ownBlock = some b) W W') (h1 : e ≠ 75) (h2 : e ≠ 62) : KeepsN w2.heap.size W W' := by
  refine ⟨hc.size, fun k o hk ho hm => (hc.block k (Array.getElem?_eq_some_iff.1 ho).1 (fun hx => ?_)).trans ho⟩
  rcases hx with hx | hx
  · omega
  · obtain ⟨_, cs, hcs⟩ := row_own h hx
    rw [ho] at hcs
    cases hcs
    rcases hm with hm | ⟨cs', hm⟩ | ⟨cs', hm⟩
    · cases hm
    · injection hm with _ hm; exact h1 hm
    · injection hm with _ hm; exact h2 hm

theorem ToldI.appP {w w2 W w6 : World} {E : List (K × Int)} {i j : Nat} {vp vi v6 : Value} {tmp : Obj} (h : ToldI w w2 E i j W vp vi) (hs : w.heap.size + 2 ≤ w2.heap.size) {e : K × Int} (he : E[i]? = some e) (hown : w6.ownsRow w2.heap.size 32 2 v6 (i + 1) (keysTo E i ++ [.int .u32 (e.1.x : Int), .int .i64 (e.1.n : Int)])) (hg : (W.alloc tmp).grownBy w6 vp.ownBlock) :
    ToldI w w2 E (i + 1) j (w6.setCell ⟨w.heap.size, 0, none⟩ v6) v6 vi ∧ KeepsN w2.heap.size W (w6.setCell ⟨w.heap.size, 0, none⟩ v6) ∧ w6.heap[w.heap.size]? = some (.cells #[vp] 22) := by
  have hc := grew (u := v6) w.heap.size hg
  have hz := h.sz
  have hlow : ∀ b, b < w2.heap.size → vp.ownBlock ≠ some b := fun b hb e => by have := (row_own h.rp e).1; omega
  have hb6 : w6.heap[w.heap.size]? = some (.cells #[vp] 22) := (hg.block _ (by simp; omega) (fun e => hlow _ (by omega) e.symm)).trans ((Below.heap_alloc _ _ _ (by omega)).trans h.bp)
  refine ⟨⟨Nat.le_trans h.sz hc.size, ⟨hc.os.trans h.ch.os, hc.tape.trans h.ch.tape, hc.output.trans h.ch.output, Nat.le_trans h.ch.size hc.size, fun k hk hn => ?_⟩, ?_, ?_, ?_, ?_⟩, grew_keeps h.rp (by omega) hc (by decide) (by decide), hb6⟩
  · refine (hc.block k (by omega) (fun hx => ?_)).trans (h.ch.block k hk hn)
    rcases hx with hx | hx
    · exact hn (.inl hx)
    · exact hlow k hk hx
  · rw [set_row hb6]; rfl
  · exact (hc.block _ (by omega) (fun hx => by rcases hx with hx | hx; omega; exact hlow _ (by omega) hx)).trans h.bi
  · have e1 : keysTo E i ++ [.int .u32 (e.1.x : Int), .int .i64 (e.1.n : Int)] = keysTo E (i + 1) := by unfold keysTo; rw [take_snoc he, List.map_append]; exact kcs_snoc _ _
    rw [e1] at hown
    exact row_chg hown (Chg.of_but (X := fun b => b = w.heap.size) (But.set _ _ _ _) rfl) (fun b hb e => by have := (row_own hown hb).1; omega)
  · refine row_chg h.ri hc (fun b hb hx => ?_)
    obtain ⟨hb1, cs, hcs⟩ := row_own h.ri hb
    rcases hx with hx | hx
    · omega
    · obtain ⟨_, ds, hds⟩ := row_own h.rp hx
      exact absurd (cells_ty hcs hds) (by decide)

theorem ToldI.appI {w w2 W w6 : World} {E : List (K × Int)} {i j : Nat} {vp vi v6 : Value} {tmp : Obj} (h : ToldI w w2 E i j W vp vi) (hs : w.heap.size + 2 ≤ w2.heap.size) {e : K × Int} (he : E[j]? = some e) (hown : w6.ownsRow w2.heap.size 3 1 v6 (j + 1) (intsTo E j ++ [.int .i64 e.2])) (hg : (W.alloc tmp).grownBy w6 vi.ownBlock) :
    ToldI w w2 E i (j + 1) (w6.setCell ⟨w.heap.size + 1, 0, none⟩ v6) vp v6 ∧ KeepsN w2.heap.size W (w6.setCell ⟨w.heap.size + 1, 0, none⟩ v6) ∧ w6.heap[w.heap.size + 1]? = some (.cells #[vi] 44) := by
  have hc := grew (u := v6) (w.heap.size + 1) hg
  have hz := h.sz
  have hlow : ∀ b, b < w2.heap.size → vi.ownBlock ≠ some b := fun b hb e => by have := (row_own h.ri e).1; omega
  have hb6 : w6.heap[w.heap.size + 1]? = some (.cells #[vi] 44) := (hg.block _ (by simp; omega) (fun e => hlow _ (by omega) e.symm)).trans ((Below.heap_alloc _ _ _ (by omega)).trans h.bi)
  refine ⟨⟨Nat.le_trans h.sz hc.size, ⟨hc.os.trans h.ch.os, hc.tape.trans h.ch.tape, hc.output.trans h.ch.output, Nat.le_trans h.ch.size hc.size, fun k hk hn => ?_⟩, ?_, ?_, ?_, ?_⟩, grew_keeps h.ri (by omega) hc (by decide) (by decide), hb6⟩
  · refine (hc.block k (by omega) (fun hx => ?_)).trans (h.ch.block k hk hn)
    rcases hx with hx | hx
    · exact hn (.inr hx)
    · exact hlow k hk hx
  · exact (hc.block _ (by omega) (fun hx => by rcases hx with hx | hx; omega; exact hlow _ (by omega) hx)).trans h.bp
  · rw [set_row hb6]; rfl
  · refine row_chg h.rp hc (fun b hb hx => ?_)
    obtain ⟨hb1, cs, hcs⟩ := row_own h.rp hb
    rcases hx with hx | hx
    · omega
    · obtain ⟨_, ds, hds⟩ := row_own h.ri hx
      exact absurd (cells_ty hcs hds) (by decide)
  · have e1 : intsTo E j ++ [.int .i64 e.2] = intsTo E (j + 1) := by unfold intsTo; rw [take_snoc he, List.map_append]; rfl
    rw [e1] at hown
    exact row_chg hown (Chg.of_but (X := fun b => b = w.heap.size + 1) (But.set _ _ _ _) rfl) (fun b hb e => by have := (row_own hown hb).1; omega)

theorem row_kept {W W' : World} {base : Nat} {e : TypeId} {size n : Nat} {v : Value} {xs : List Value} {row : Option Nat} (h : W.ownsRow base e size v n xs) (hg : W.grownBy W' row) (hr : ∀ r, row = some r → ∃ o : Obj, W.heap[r]? = some o ∧ Mine o) (h1 : e ≠ 75) (h2 : e ≠ 62) : W'.ownsRow base e size v n xs := by
  refine h.kept hg ?_
  rcases h.2 with ⟨hv, _⟩ | ⟨g, cap, cur, hv, _, hgb, _⟩
  · exact .inl (by rw [hv]; rfl)
  · refine .inr fun e' => ?_
    rw [hv] at e'
    obtain ⟨o, ho, hm⟩ := hr g (by simpa [Value.ownBlock] using e'.symm)
    rw [hgb] at ho
    cases ho
    rcases hm with hm | ⟨cs, hm⟩ | ⟨cs, hm⟩
    · cases hm
    · injection hm with _ hm; exact h1 hm
    · injection hm with _ hm; exact h2 hm

theorem ToldI.own {w w2 : World} {E : List (K × Int)} (hs : w.heap.size + 2 ≤ w2.heap.size) : OwnN w2.heap.size (fun i W => i ≤ E.length ∧ ∃ vp vi, ToldI w w2 E i i W vp vi) := by
  rintro i W W' row ⟨hi, vp, vi, h⟩ hg hr
  have hs1 := h.sz
  have hne : ∀ j, j < w2.heap.size → some j ≠ row := fun j hj e => by have := (hr j e.symm).1; omega
  have hr' : ∀ r, row = some r → ∃ o : Obj, W.heap[r]? = some o ∧ Mine o := fun r e => (hr r e).2
  refine ⟨hi, vp, vi, Nat.le_trans h.sz hg.size, ⟨hg.os.trans h.ch.os, hg.tape.trans h.ch.tape, hg.output.trans h.ch.output, Nat.le_trans h.ch.size hg.size, fun j hj hn => (hg.block j (by omega) (hne j hj)).trans (h.ch.block j hj hn)⟩, (hg.block _ (by omega) (hne _ (by omega))).trans h.bp, (hg.block _ (by omega) (hne _ (by omega))).trans h.bi, row_kept h.rp hg hr' (by decide) (by decide), row_kept h.ri hg hr' (by decide) (by decide)⟩

theorem infoI : (Try.prog.info? 3).map (fun i => (i.zero, i.size, i.bytes)) = some (some (.int .i64 0), 1, 8) := by kernel_rfl

theorem one_at {W : World} {n : Nat} (hn : W.heap.size = n) (a : Value) (T : TypeId) : ∀ (j : Nat) (u : Value), [a][j]? = some u → (W.alloc (.cells #[a] T)).cell? ((⟨n, 0, none⟩ : Addr).add j) = some u := by
  intro j u hu
  rcases j with _ | j
  · subst hn
    simp at hu
    subst hu
    have e : (⟨W.heap.size, 0, none⟩ : Addr).add 0 = ⟨W.heap.size, 0, none⟩ := by simp [Addr.add]
    rw [e, cell_of_row _ _ _ _ _ _ (heap_alloc_new W _)]; rfl
  · simp at hu

theorem told_any {tb : Nat} {t : Tr} (w : World) (hT : TrieAt w (fun b => b = tb) tb t) (hE : (ents t).length ≤ 400) :
    Calls Try.prog 27 #[.pointer (some ⟨tb, 0, none⟩)] w fun e w' => ∃ vp vi, e = .returned (.tuple #[vp, vi]) ∧ w'.ownsRow w.heap.size 32 2 vp (ents t).length (kcs ((ents t).map Prod.fst)) ∧ w'.ownsRow w.heap.size 3 1 vi (ents t).length ((ents t).map iv) ∧ Below w.heap.size w w' := by
  obtain ⟨i0, hi0, hz0, hz1, hz2⟩ := info_parts infoP
  obtain ⟨j0, hj0, hy0, hy1, hy2⟩ := info_parts infoI
  have HIP : Hid (Try.prog.info? 32 = some i0) := hi0
  have HII : Hid (Try.prog.info? 3 = some j0) := hj0
  obtain ⟨_, hltt, ⟨m, hrow, hmt, hL⟩, hwf⟩ := hT
  subst hmt
  have htb := hltt tb rfl
  obtain ⟨w1, HW1⟩ : ∃ w1, Hid (w1 = (w.alloc (.cells #[.slice none 0 0] 22)).alloc (.cells #[.slice none 0 0] 44)) := ⟨_, rfl⟩
  have hs1 : w1.heap.size = w.heap.size + 2 := by rw [HW1.out]; simp
  have hb1 : Below w.heap.size w w1 := by rw [HW1.out]; exact ((Below.refl _ _).alloc (Nat.le_refl _) _).alloc (by simp) _
  have r4 : w1.heap[w.heap.size]? = some (.cells #[.slice none 0 0] 22) := by rw [HW1.out, Below.heap_alloc _ _ _ (by simp)]; exact heap_alloc_new w _
  have r5 : w1.heap[w.heap.size + 1]? = some (.cells #[.slice none 0 0] 44) := by
    have h := heap_alloc_new (w.alloc (.cells #[.slice none 0 0] 22)) (.cells #[.slice none 0 0] 44)
    rw [World.size_alloc] at h
    rw [HW1.out]; exact h
  obtain ⟨w2, HW2⟩ : ∃ w2, Hid (w2 = (w1.alloc (.cells #[.pointer (some ⟨tb, 0, none⟩)] 25)).alloc (.cells #[.int .u32 ((0 : Nat) : Int), .int .i64 0] 32)) := ⟨_, rfl⟩
  have hs2 : w2.heap.size = w1.heap.size + 2 := by rw [HW2.out]; simp
  have hb2 : Below w1.heap.size w1 w2 := by rw [HW2.out]; exact ((Below.refl _ _).alloc (Nat.le_refl _) _).alloc (by simp) _
  have ht2 : w2.heap[w1.heap.size]? = some (.cells #[.pointer (some ⟨tb, 0, none⟩)] 25) := by rw [HW2.out, Below.heap_alloc _ _ _ (by simp)]; exact heap_alloc_new w1 _
  have hp2 : w2.heap[w1.heap.size + 1]? = some (.cells #[.int .u32 ((0 : Nat) : Int), .int .i64 0] 32) := by
    have h := heap_alloc_new (w1.alloc (.cells #[.pointer (some ⟨tb, 0, none⟩)] 25)) (.cells #[.int .u32 ((0 : Nat) : Int), .int .i64 0] 32)
    rw [World.size_alloc] at h
    rw [HW2.out]; exact h
  have hb02 : Below w.heap.size w w2 := hb1.trans (hb2.mono hb1.size)
  have HSQ2 : Hid (SeqB w2 (fun b => b = tb) (w1.heap.size + 1) w1.heap.size tb 0 0 m) := ⟨hL.below hb02, hp2, ht2, below_keeps hb02 hrow (Array.getElem?_eq_some_iff.1 hrow).1⟩
  have HA1 := hid (all_new (tb := tb) w1)
  rw [← HW2.out] at HA1
  have HWF := hid hwf
  have HNM : Hid (nodes m.tr ≤ 10000000000) := by
    have h := WF_nodes hwf
    rw [show top.x = 0 from rfl, top_s] at h
    unfold Hid; omega
  obtain ⟨E, HEE⟩ : ∃ E, Hid (E = ents m.tr) := ⟨_, rfl⟩
  have HXS : Hid (entsIn (ents m.tr) 0 0 = E) := by unfold Hid; rw [entsIn_all HWF.out, HEE.out]
  rw [← HEE.out] at hE
  have k4 := below_keeps hb2 r4 (Array.getElem?_eq_some_iff.1 r4).1
  have k5 := below_keeps hb2 r5 (Array.getElem?_eq_some_iff.1 r5).1
  have HT0 : Hid (ToldI w w2 E 0 0 w2 (.slice none 0 0) (.slice none 0 0)) := ⟨Nat.le_refl _, Chg.refl _ _, k4, k5, World.ownsRow_nil _ _ _ _, World.ownsRow_nil _ _ _ _⟩
  have HS2 : Hid (w.heap.size + 2 ≤ w2.heap.size) := by unfold Hid; omega
  have HB02 := hid hb02
  have HTB : Hid (tb < w.heap.size) := htb
  have HS1 := hid hs1
  have hqf := eq_seqT 43 #[] #[.pointer (some ⟨w1.heap.size + 1, 0, none⟩), .pointer (some ⟨w1.heap.size, 0, none⟩)]
  rw [← HEE.out]
  clear hrow hL hwf hb1 r4 r5 hb2 ht2 hp2 hb02 k4 k5 hs1 hs2 hltt htb hi0 hj0
  refine (callsIn_wide (n := 9)).1 ?_
  refine callsIn_of_wp_marks Try.func27 rfl trivial ?_ rfl
  refine wpIn_wide.2 ?_
  simp only [Try.ntmps27, List.size_toArray, List.length_cons, List.length_nil, Nat.reduceAdd, Nat.reduceSub, Array.replicate_succ, Array.replicate_zero, List.push_toArray, List.append_toArray, List.nil_append, List.cons_append]
  go_upto_region 3 with fail
  rw [← HW1.out]
  go_wp2_with fail
  refine HA1.out.mono ?_
  rintro _ _ ⟨rfl, ew⟩
  obtain rfl := ew.symm
  go_wp2_with fail
  clear hqf
  have hseq := seq_gives 8 (by omega) (fun b => b = tb) (w1.heap.size + 1) w1.heap.size tb 0 0 m (by omega) HWF.out HNM.out
  rw [HXS.out] at hseq
  refine wpIn_wide.1 (wpIn_givesU (β := Nat) (n := 9) (F := Fence.wide) rfl (by omega) (gf := 43) (lb := #[.pointer (some ⟨w1.heap.size + 1, 0, none⟩), .pointer (some ⟨w1.heap.size, 0, none⟩)]) rfl trivial (enters_of Try.func43 (by kernel_rfl) rfl)
    hseq (fun _ => rfl) (fun i W => i ≤ E.length ∧ ∃ vp vi, ToldI w w2 E i i W vp vi) (fun _ _ => False) ?hI ?hIx ?hF ?h0
    (fun e b tt => (((tt.setIfInBounds 14 (pv e.1)).setIfInBounds 15 (.int .i64 e.2)).setIfInBounds 7 (.pointer (some ⟨b, 0, none⟩))).setIfInBounds 8 (.int .i64 e.2)) (fun e b W => w2.heap.size ≤ b ∧ W.heap[b]? = some (.cells #[.int .u32 (e.1.x : Int), .int .i64 (e.1.n : Int)] 32)) ?hAy ?assign ?body ?done ?stop)
  case hI => exact ToldI.own HS2.out
  case hIx =>
    rintro c W W' row h hg hr
    exact h.elim
  case hF =>
    rintro i W ⟨_, vp, vi, h⟩
    have hs := HS1.out
    have htb := HTB.out
    have nt : NoTree w2 (fun b => b = w.heap.size ∨ b = w.heap.size + 1) := fun b hb => by
      rcases hb with rfl | rfl
      · exact kind_no HT0.out.bp (by decide) (by decide)
      · exact kind_no HT0.out.bi (by decide) (by decide)
    have kp' : ∀ {b : Nat} {o : Obj}, w2.heap[b]? = some o → b ≠ w.heap.size → b ≠ w.heap.size + 1 → W.heap[b]? = some o := fun hb h1 h2 => (h.ch.block _ (Array.getElem?_eq_some_iff.1 hb).1 (fun hx => by rcases hx with hx | hx; exact h1 hx; exact h2 hx)).trans hb
    exact ⟨HSQ2.out.ls.chgT nt h.ch, kp' HSQ2.out.pb (by omega) (by omega), kp' HSQ2.out.tx (by omega) (by omega), kp' HSQ2.out.rt (by omega) (by omega)⟩
  case h0 => exact ⟨Nat.zero_le _, _, _, HT0.out⟩
  case hAy =>
    rintro e b _ W W' row ⟨h1, h2⟩ hg hr
    refine ⟨h1, (hg.block _ (Array.getElem?_eq_some_iff.1 h2).1 (fun he => ?_)).trans h2⟩
    obtain ⟨_, o, ho, hm⟩ := hr b he.symm
    rw [h2] at ho
    cases ho
    rcases hm with hm | ⟨cs, hm⟩ | ⟨cs, hm⟩
    · cases hm
    · injection hm with _ hm; exact absurd hm (by decide)
    · injection hm with _ hm; exact absurd hm (by decide)
  case assign =>
    intro l i e W K hi hx hK
    obtain ⟨W2, HW2'⟩ : ∃ W2, Hid (W2 = W.alloc (.cells #[.int .u32 (e.1.x : Int), .int .i64 (e.1.n : Int)] 32)) := ⟨_, rfl⟩
    have hbW : Below W.heap.size W W2 := by rw [HW2'.out]; exact (Below.refl _ _).alloc (Nat.le_refl _) _
    have hrW : W2.heap[W.heap.size]? = some (.cells #[.int .u32 (e.1.x : Int), .int .i64 (e.1.n : Int)] 32) := by rw [HW2'.out]; exact heap_alloc_new W _
    have hsz : w2.heap.size ≤ W.heap.size := by obtain ⟨_, _, _, h⟩ := hi; exact h.sz
    have HK := hK W.heap.size W2 (KeepsN.of_below hbW) ((ToldI.own HS2.out).below hi hbW) ⟨hsz, hrW⟩
    unfold pv at HK ⊢
    simp only [List.setIfInBounds_toArray, List.set_cons_zero, List.set_cons_succ] at HK ⊢
    clear hK hx hbW hrW hi
    gi_wp2
    rw [← HW2'.out]
    exact HK
  case body =>
    rintro l i e b W hl _ ⟨hi, vp, vi, h⟩ ⟨j1, j2⟩ hx
    have hs := HS2.out
    obtain ⟨ek, ev⟩ := e
    simp only at j2
    have hlt := (List.getElem?_eq_some_iff.1 hx).1
    have p0 : W.cell? ⟨b, 0, none⟩ = some (.int .u32 (ek.x : Int)) := by rw [cell_of_row _ _ _ _ _ _ j2]; rfl
    have p1 : W.cell? ⟨b, 1, none⟩ = some (.int .i64 (ek.n : Int)) := by rw [cell_of_row _ _ _ _ _ _ j2]; rfl
    have c4 : W.cell? ⟨w.heap.size, 0, none⟩ = some vp := by rw [cell_of_row _ _ _ _ _ _ h.bp]; rfl
    obtain ⟨ap, np, cp, hvp⟩ : ∃ a n c, vp = .slice a n c := by
      rcases h.rp.2 with ⟨hv, _⟩ | ⟨g, cap, cur, hv, _⟩
      · exact ⟨_, _, _, hv⟩
      · exact ⟨_, _, _, hv⟩
    obtain ⟨ai, ni, ci, hvi⟩ : ∃ a n c, vi = .slice a n c := by
      rcases h.ri.2 with ⟨hv, _⟩ | ⟨g, cap, cur, hv, _⟩
      · exact ⟨_, _, _, hv⟩
      · exact ⟨_, _, _, hv⟩
    subst hvp hvi
    have HTI := hid h
    have HX := hid hx
    have b0 : i ≤ 400 := by omega
    have hwz : w.heap.size ≤ W.heap.size := by have := h.sz; omega
    have HWZ := hid hwz
    clear h hx j1 j2 hl
    simp only [pv, List.setIfInBounds_toArray, List.set_cons_zero, List.set_cons_succ]
    gi_wp2_with (gi_at_builtin; refine wpListIn_append_own _ rfl _ _ 22 rfl w2.heap.size 32 i0 (.agg #[.int .u32 0, .int .i64 0]) 2 16 (by kernel_rfl) HIP.out hz0 hz1 hz2 rfl (by decide) _ _ _ rfl (World.ownsRow.alloc HTI.out.rp _) ⟨W.heap.size, 0, none⟩ 1 1 [.int .u32 (ek.x : Int), .int .i64 (ek.n : Int)] rfl rfl ?aa1 ?aa2 ?aa3 ?aa4 ?aa5 ?_)
    case aa1 => exact two_at rfl _ _ _
    case aa2 => intro u hu; simp at hu; rcases hu with rfl | rfl <;> rfl
    case aa3 => unfold maxLen; omega
    case aa4 => omega
    case aa5 => have := HTI.out.sz; simp; omega
    intro v6 w6 hown6 hgrow6 _
    obtain ⟨ht6, hk6, hb6⟩ := HTI.out.appP HS2.out HX.out hown6 hgrow6
    obtain ⟨g6, cap6, rfl⟩ := ownsRow_succ ht6.rp
    have q0 : w6.cell? ⟨w.heap.size, 0, none⟩ = some (.slice ap np cp) := by rw [cell_of_row _ _ _ _ _ _ hb6]; rfl
    have qf : w6.frozen? ⟨w.heap.size, 0, none⟩ = false := frozen_of_row _ _ _ _ _ hb6
    have HT7 := hid ht6
    have HK7 := hid hk6
    have HZ7 : Hid ((w6.setCell ⟨w.heap.size, 0, none⟩ (.slice (some ⟨g6, 0, none⟩) (i + 1) cap6)).heap.size = w6.heap.size) := by unfold Hid; simp [World.setCell]
    have c5 : (w6.setCell ⟨w.heap.size, 0, none⟩ (.slice (some ⟨g6, 0, none⟩) (i + 1) cap6)).cell? ⟨w.heap.size + 1, 0, none⟩ = some (.slice ai ni ci) := by rw [cell_of_row _ _ _ _ _ _ ht6.bi]; rfl
    clear hown6 hgrow6 ht6 hk6 hb6 p0 p1 c4
    gi_wp2_with (gi_at_builtin; refine wpListIn_append_own _ rfl _ _ 44 rfl w2.heap.size 3 j0 (.int .i64 0) 1 8 (by kernel_rfl) HII.out hy0 hy1 hy2 rfl (by decide) _ _ _ rfl (World.ownsRow.alloc HT7.out.ri _) ⟨w6.heap.size, 0, none⟩ 1 1 [.int .i64 ev] rfl rfl ?bb1 ?bb2 ?bb3 ?bb4 ?bb5 ?_)
    case bb1 => exact one_at HZ7.out _ _
    case bb2 => intro u hu; simp at hu; subst hu; rfl
    case bb3 => unfold maxLen; omega
    case bb4 => omega
    case bb5 => have h1 := HT7.out.sz; have h2 := HZ7.out; simp; omega
    intro v8 w8 hown8 hgrow8 _
    obtain ⟨ht8, hk8, hb8⟩ := HT7.out.appI HS2.out HX.out hown8 hgrow8
    obtain ⟨g8, cap8, rfl⟩ := ownsRow_succ ht8.ri
    have s0 : w8.cell? ⟨w.heap.size + 1, 0, none⟩ = some (.slice ai ni ci) := by rw [cell_of_row _ _ _ _ _ _ hb8]; rfl
    have sf : w8.frozen? ⟨w.heap.size + 1, 0, none⟩ = false := frozen_of_row _ _ _ _ _ hb8
    obtain ⟨W9, HW9⟩ : ∃ W9, Hid (W9 = w8.setCell ⟨w.heap.size + 1, 0, none⟩ (.slice (some ⟨g8, 0, none⟩) (i + 1) cap8)) := ⟨_, rfl⟩
    rw [← HW9.out] at ht8 hk8
    have HFIN : Hid (KeepsN w2.heap.size W W9 ∧ i + 1 ≤ E.length ∧ ∃ vp vi, ToldI w w2 E (i + 1) (i + 1) W9 vp vi) := ⟨HK7.out.trans hk8, hlt, _, _, ht8⟩
    have u4 : (w8.setCell ⟨w.heap.size + 1, 0, none⟩ (.slice (some ⟨g8, 0, none⟩) (i + 1) cap8)).cell? ⟨w.heap.size, 0, none⟩ = some (.slice (some ⟨g6, 0, none⟩) (i + 1) cap6) := by rw [← HW9.out, cell_of_row _ _ _ _ _ _ ht8.bp]; rfl
    have z1 : ¬ ((400 : Int) < (i : Int) + 1) := by omega
    clear hown8 hgrow8 ht8 hk8 hb8 c5 q0 qf
    gi_wp2
    rw [← HW9.out]
    exact HFIN.out
  case done =>
    rintro D W hD ⟨_, vp, vi, h⟩ hK
    have c4 : W.cell? ⟨w.heap.size, 0, none⟩ = some vp := by rw [cell_of_row _ _ _ _ _ _ h.bp]; rfl
    have c5 : W.cell? ⟨w.heap.size + 1, 0, none⟩ = some vi := by rw [cell_of_row _ _ _ _ _ _ h.bi]; rfl
    obtain ⟨ap, np, cp, hvp⟩ : ∃ a n c, vp = .slice a n c := by
      rcases h.rp.2 with ⟨hv, _⟩ | ⟨g, cap, cur, hv, _⟩
      · exact ⟨_, _, _, hv⟩
      · exact ⟨_, _, _, hv⟩
    obtain ⟨ai, ni, ci, hvi⟩ : ∃ a n c, vi = .slice a n c := by
      rcases h.ri.2 with ⟨hv, _⟩ | ⟨g, cap, cur, hv, _⟩
      · exact ⟨_, _, _, hv⟩
      · exact ⟨_, _, _, hv⟩
    subst hvp hvi
    have HKD := hid hK
    have hs := HS2.out
    have HDD : Hid (w.heap.size ≤ D) := Nat.le_trans HB02.out.size hD
    have hbW : Below w.heap.size w W := HB02.out.trans ⟨h.ch.os, h.ch.tape, h.ch.output, h.ch.size, fun j hj => h.ch.block j (by omega) (fun hx => by rcases hx with hx | hx <;> omega)⟩
    have HBF : Hid (Below w.heap.size w W.drew) := ⟨hbW.os, hbW.tape, hbW.output, hbW.size, hbW.block⟩
    have HRP : Hid (W.ownsRow w.heap.size 32 2 (.slice ap np cp) E.length (kcs (E.map Prod.fst))) := by
      have := row_base h.rp (by omega : w.heap.size ≤ w2.heap.size)
      unfold keysTo at this
      rw [List.take_length] at this
      exact this
    have HRI : Hid (W.ownsRow w.heap.size 3 1 (.slice ai ni ci) E.length (E.map iv)) := by
      have := row_base h.ri (by omega : w.heap.size ≤ w2.heap.size)
      unfold intsTo at this
      rw [List.take_length] at this
      exact this
    clear h hK hD hbW
    go_upto_region 12 with fail
    go_region
    all_goals (
      go_wp2_with fail
      have hKz : W.drew.heap[D]? = some (.deferred (some [])) := HKD.out
      have hbf : Below w.heap.size w (W.drew.putObj D (.deferred none)) := HBF.out.trans (belowK_b (w := w) (Nat.le_refl _) W.drew D _ _ HDD.out hKz rfl rfl)
      have hrp : (W.drew.putObj D (.deferred none)).ownsRow w.heap.size 32 2 (.slice ap np cp) E.length (kcs (E.map Prod.fst)) := ownsRow_putObj (W := W.drew) HRP.out _ hKz rfl
      have hri : (W.drew.putObj D (.deferred none)).ownsRow w.heap.size 3 1 (.slice ai ni ci) E.length (E.map iv) := ownsRow_putObj (W := W.drew) HRI.out _ hKz rfl
      refine ⟨by simp, .inl ⟨_, _, rfl, run_takeDeferred hKz, ?_⟩⟩
      exact ⟨_, (by simp [results, Try.results27, go_sem]), _, _, rfl, hrp, hri, hbf⟩)
  case stop =>
    rintro D c W hD h hK
    exact h.elim
end Go.Proofs.Ytmnafocmbcgdiaa
