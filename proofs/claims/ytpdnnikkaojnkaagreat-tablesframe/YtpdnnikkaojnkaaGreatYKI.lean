import Derived.Test.YtpdnnikkaojnkaaGreatYKH
namespace Go.Proofs.YtpdnnikkaojnkaaGreat.Rt
open Go.Proofs.YtpdnnikkaojnkaaGreat Go.ChangeShapes Go.WideShapes Go.ChangeAt Go.RowKit Go.Shelf Tri N
attribute [local go_sem] Oper.semAt_some
set_option maxHeartbeats 8000000
set_option maxRecDepth 100000
theorem grew {W w6 : World} {tmp : Obj} {v u : Value} (B : Nat) (hg : (W.alloc tmp).grownBy w6 v.ownBlock) : Chg (fun b => b = B \/ v.ownBlock = some b) W (w6.setCell ⟨B, 0, none⟩ u) := by
 have hs : W.heap.size <= w6.heap.size := Nat.le_trans (by simp) hg.size
 have bt := But.set B 0 w6 u
 refine ⟨bt.os.trans hg.os, bt.tape.trans hg.tape, bt.output.trans hg.output, Nat.le_trans hs bt.size, fun j hj hn => ?_⟩
 rw [bt.block j (by omega) (fun e => hn (.inl e)), hg.block j (by simp; omega) (fun e => hn (.inr e.symm))]
 exact Below.heap_alloc _ _ _ hj
theorem row_own {W : World} {base : Nat} {e : TypeId} {size n : Nat} {v : Value} {xs : List Value} (h : W.ownsRow base e size v n xs) {b : Nat} (hb : v.ownBlock = some b) : base <= b /\ ∃ cs, W.heap[b]? = some (.cells cs e) := by
 rcases h.2 with ⟨hv, _⟩ | ⟨g, cap, cur, hv, h1, h2, _⟩
 ·rw [hv] at hb; cases hb
 ·rw [hv] at hb
  obtain rfl : g = b := by simpa [Value.ownBlock] using hb
  exact ⟨h1, cur, h2⟩
theorem row_chg {W W' : World} {base : Nat} {e : TypeId} {size n : Nat} {v : Value} {xs : List Value} {X : Nat -> Prop} (h : W.ownsRow base e size v n xs) (hc : Chg X W W') (hx : ∀ b, v.ownBlock = some b -> ¬ X b) : W'.ownsRow base e size v n xs := by
 refine ⟨h.1, ?_⟩
 rcases h.2 with h1 | ⟨g, cap, cur, hv, hb, hg, hrest⟩
 ·exact .inl h1
 ·exact .inr ⟨g, cap, cur, hv, hb, (hc.block g (gsl hg) (hx g (by rw [hv]; rfl))).trans hg, hrest⟩
theorem row_base {W : World} {b c : Nat} {e : TypeId} {size n : Nat} {v : Value} {xs : List Value} (h : W.ownsRow b e size v n xs) (hb : c <= b) : W.ownsRow c e size v n xs := by
 refine ⟨h.1, ?_⟩
 rcases h.2 with h1 | ⟨g, cap, cur, hv, hb', hrest⟩
 ·exact .inl h1
 ·exact .inr ⟨g, cap, cur, hv, Nat.le_trans hb hb', hrest⟩
theorem grew_keeps {w2 W W' : World} {B : Nat} {v : Value} {e : TypeId} {size n : Nat} {xs : List Value} (h : W.ownsRow w2.heap.size e size v n xs) (hB : B < w2.heap.size) (hc : Chg (fun b => b = B \/ v.ownBlock = some b) W W') (h1 : e ≠ 137) (h2 : e ≠ 163) : KeepsN w2.heap.size W W' := by
 refine ⟨hc.size, fun k o hk ho hm => (hc.block k (gsl ho) (fun hx => ?_)).trans ho⟩
 rcases hx with hx | hx
 ·omega
 ·obtain ⟨_, cs, hcs⟩ := row_own h hx
  rw [ho] at hcs
  cases hcs
  rcases hm with hm | ⟨cs', hm⟩ | ⟨cs', hm⟩
  ·cases hm
  ·injection hm with _ hm; exact h1 hm
  ·injection hm with _ hm; exact h2 hm
theorem row_kept {W W' : World} {base : Nat} {e : TypeId} {size n : Nat} {v : Value} {xs : List Value} {row : Option Nat} (h : W.ownsRow base e size v n xs) (hg : W.grownBy W' row) (hr : ∀ r, row = some r -> ∃ o : Obj, W.heap[r]? = some o /\ Mine o) (h1 : e ≠ 137) (h2 : e ≠ 163) : W'.ownsRow base e size v n xs := by
 refine h.kept hg ?_
 rcases h.2 with ⟨hv, _⟩ | ⟨g, cap, cur, hv, _, hgb, _⟩
 ·exact .inl (by rw [hv]; rfl)
 ·refine .inr fun e' => ?_
  rw [hv] at e'
  obtain ⟨o, ho, hm⟩ := hr g (by simpa [Value.ownBlock] using e'.symm)
  rw [hgb] at ho
  cases ho
  rcases hm with hm | ⟨cs, hm⟩ | ⟨cs, hm⟩
  ·cases hm
  ·injection hm with _ hm; exact h1 hm
  ·injection hm with _ hm; exact h2 hm
def rcs (L : List Vt) : List Value := L.flatMap fun v => v.cells.toList
def OwnR (w : World) (base : Nat) (v : Value) (L : List Vt) : Prop := w.ownsRow base 38 4 v L.length (rcs L)
def rtsTo (E : List (K × Vt)) (i : Nat) : List Vt := (E.take i).map Prod.snd
theorem rcs_snoc (L : List Vt) (v : Vt) : rcs L ++ [.int .u32 (v.x : Int), .int .i64 v.n, .int .u32 (v.via : Int), .bool v.loc] = rcs (L ++ [v]) := by
 unfold rcs
 rw [List.flatMap_append]
 rfl
theorem rtsTo_succ {E : List (K × Vt)} {i : Nat} {e : K × Vt} (h : E[i]? = some e) : rtsTo E i ++ [e.2] = rtsTo E (i + 1) := by
 unfold rtsTo
 rw [take_snoc h, List.map_append]
 rfl
structure LstI (w w2 : World) (E : List (K × Vt)) (i : Nat) (W : World) (vp : Value) : Prop where
 sz : w2.heap.size <= W.heap.size
 ch : Chg (fun b => b = w.heap.size) w2 W
 bp : W.heap[w.heap.size]? = some (.cells #[vp] 47)
 rp : W.ownsRow w2.heap.size 38 4 vp i (rcs (rtsTo E i))
theorem LstI.app {w w2 W w6 : World} {E : List (K × Vt)} {i : Nat} {vp v6 : Value} {tmp : Obj} (h : LstI w w2 E i W vp) (hs : w.heap.size + 1 <= w2.heap.size) {e : K × Vt} (he : E[i]? = some e) (hown : w6.ownsRow w2.heap.size 38 4 v6 (i + 1) (rcs (rtsTo E i) ++ [.int .u32 (e.2.x : Int), .int .i64 e.2.n, .int .u32 (e.2.via : Int), .bool e.2.loc])) (hg : (W.alloc tmp).grownBy w6 vp.ownBlock) :
  LstI w w2 E (i + 1) (w6.setCell ⟨w.heap.size, 0, none⟩ v6) v6 /\ KeepsN w2.heap.size W (w6.setCell ⟨w.heap.size, 0, none⟩ v6) /\ w6.heap[w.heap.size]? = some (.cells #[vp] 47) := by
 have hc := grew (u := v6) w.heap.size hg
 have hz := h.sz
 have hlow : ∀ b, b < w2.heap.size -> vp.ownBlock ≠ some b := fun b hb e => by have := (row_own h.rp e).1; omega
 have hb6 : w6.heap[w.heap.size]? = some (.cells #[vp] 47) := (hg.block _ (by simp; omega) (fun e => hlow _ (by omega) e.symm)).trans ((Below.heap_alloc _ _ _ (by omega)).trans h.bp)
 refine ⟨⟨Nat.le_trans h.sz hc.size, ⟨hc.os.trans h.ch.os, hc.tape.trans h.ch.tape, hc.output.trans h.ch.output, Nat.le_trans h.ch.size hc.size, fun k hk hn => ?_⟩, ?_, ?_⟩, grew_keeps h.rp (by omega) hc (by decide) (by decide), hb6⟩
 ·refine (hc.block k (by omega) (fun hx => ?_)).trans (h.ch.block k hk hn)
  rcases hx with hx | hx
  ·exact hn hx
  ·exact hlow k hk hx
 ·rw [set_row hb6]; rfl
 ·rw [rcs_snoc, rtsTo_succ he] at hown
  exact row_chg hown (Chg.of_but (X := fun b => b = w.heap.size) (But.set _ _ _ _) rfl) (fun b hb e => by have := (row_own hown hb).1; omega)
theorem LstI.own {w w2 : World} {E : List (K × Vt)} (hs : w.heap.size + 1 <= w2.heap.size) : OwnN w2.heap.size (fun i W => i <= E.length /\ ∃ vp, LstI w w2 E i W vp) := by
 rintro i W W' row ⟨hi, vp, h⟩ hg hr
 have hs1 := h.sz
 have hne : ∀ j, j < w2.heap.size -> some j ≠ row := fun j hj e => by have := (hr j e.symm).1; omega
 have hr' : ∀ r, row = some r -> ∃ o : Obj, W.heap[r]? = some o /\ Mine o := fun r e => (hr r e).2
 exact ⟨hi, vp, Nat.le_trans h.sz hg.size, ⟨hg.os.trans h.ch.os, hg.tape.trans h.ch.tape, hg.output.trans h.ch.output, Nat.le_trans h.ch.size hg.size, fun j hj hn => (hg.block j (by omega) (hne j hj)).trans (h.ch.block j hj hn)⟩, (hg.block _ (by omega) (hne _ (by omega))).trans h.bp, row_kept h.rp hg hr' (by decide) (by decide)⟩
theorem infoRt : (Tryz.prog.info? 38).map (fun i => (i.zero, i.size, i.bytes)) = some (some (.agg #[.int .u32 0, .int .i64 0, .int .u32 0, .bool false]), 4, 24) := by kernel_rfl
theorem four_at {W : World} {n : Nat} (hn : W.heap.size = n) (a b c d : Value) (T : TypeId) : ∀ (j : Nat) (u : Value), [a, b, c, d][j]? = some u -> (W.alloc (.cells #[a, b, c, d] T)).cell? ((⟨n, 0, none⟩ : Addr).add j) = some u := by
 intro j u hu
 subst hn
 have e : (⟨W.heap.size, 0, none⟩ : Addr).add j = ⟨W.heap.size, j, none⟩ := by simp [Addr.add]; exact fun h => h.symm
 rw [e, cell_of_row _ _ _ _ _ _ (heap_alloc_new W _)]
 simpa using hu
theorem listR_any {X : Nat -> Prop} {rb tb room : Nat} {R : List Vt} (w : World) (h : RtAt w X rb tb room R) :
  Calls Tryz.prog 21 #[.pointer (some ⟨rb, 0, none⟩)] w fun e w' => ∃ v L, e = .returned v /\ OwnR w' w.heap.size v L /\ SrtK Tri.Vt.num L R /\ Below w.heap.size w w' := by
 obtain ⟨i0, hi0, hz0, hz1, hz2⟩ := info_parts infoRt
 have HIP : Hid (Tryz.prog.info? 38 = some i0) := hi0
 obtain ⟨w1, HW1⟩ : ∃ w1, Hid (w1 = w.alloc (.cells #[.slice none 0 0] 47)) := ⟨_, rfl⟩
 have hs1 : w1.heap.size = w.heap.size + 1 := by rw [HW1.out]; simp
 have hb1 : Below w.heap.size w w1 := by rw [HW1.out]; exact bR.alloc nL _
 have r4 : w1.heap[w.heap.size]? = some (.cells #[.slice none 0 0] 47) := by rw [HW1.out]; exact heap_alloc_new w _
 have h1 := h.below hb1
 obtain ⟨-, c1⟩ := h1.cells
 obtain ⟨t, ht, hh⟩ := h.tree
 have hsrt := hh.srt ht.wf
 have hlen : (ents t).length <= 256 := by
  have := hh.len ht.wf
  rw [vals_len] at this
  have := h.le
  omega
 obtain ⟨htm, hltt, ⟨m, hrow, hmt, hL⟩, hwf⟩ := ht
 subst hmt
 have htb := hltt tb htm
 obtain ⟨w2, HW2⟩ : ∃ w2, Hid (w2 = (w1.alloc (.cells #[.pointer (some ⟨tb, 0, none⟩)] 93)).alloc (.cells #[.int .u32 ((0 : Nat) : Int), .int .i64 0] 36)) := ⟨_, rfl⟩
 have hs2 : w2.heap.size = w1.heap.size + 2 := by rw [HW2.out]; simp
 have hb2 : Below w1.heap.size w1 w2 := by rw [HW2.out]; exact (bR.alloc nL _).alloc (by simp) _
 have ht2 : w2.heap[w1.heap.size]? = some (.cells #[.pointer (some ⟨tb, 0, none⟩)] 93) := by rw [HW2.out, Below.heap_alloc _ _ _ (by simp)]; exact heap_alloc_new w1 _
 have hp2 : w2.heap[w1.heap.size + 1]? = some (.cells #[.int .u32 ((0 : Nat) : Int), .int .i64 0] 36) := by
  have h := heap_alloc_new (w1.alloc (.cells #[.pointer (some ⟨tb, 0, none⟩)] 93)) (.cells #[.int .u32 ((0 : Nat) : Int), .int .i64 0] 36)
  rw [World.size_alloc] at h
  rw [HW2.out]; exact h
 have hb02 : Below w.heap.size w w2 := hb1.trans (hb2.mono hb1.size)
 have HSQ2 : Hid (SeqB w2 X (w1.heap.size + 1) w1.heap.size tb 0 0 m) := ⟨hL.below hb02, hp2, ht2, below_keeps hb02 hrow (gsl hrow)⟩
 have HA1 := hid (all_new (tb := tb) w1)
 rw [<- HW2.out] at HA1
 have HWF := hid hwf
 have HNM : Hid (nodes m.tr <= 10000000000) := by
  have h := WF_nodes hwf
  rw [show top.x = 0 from rfl, top_s] at h
  unfold Hid; omega
 obtain ⟨E, HEE⟩ : ∃ E, Hid (E = ents m.tr) := ⟨_, rfl⟩
 have HXS : Hid (entsIn (ents m.tr) 0 0 = E) := by unfold Hid; rw [entsIn_all HWF.out, HEE.out]
 rw [<- HEE.out] at hlen hsrt
 have k4 := below_keeps hb2 r4 (gsl r4)
 have HT0 : Hid (LstI w w2 E 0 w2 (.slice none 0 0)) := ⟨nL, Chg.refl _ _, k4, World.ownsRow_nil _ _ _ _⟩
 have HS2 : Hid (w.heap.size + 1 <= w2.heap.size) := by unfold Hid; omega
 have HB02 := hid hb02
 have HTB : Hid (tb < w.heap.size) := htb
 have HS1 := hid hs1
 have HSR := hid hsrt
 clear hrow hL hwf hb1 r4 hb2 ht2 hp2 hb02 k4 hs1 hs2 hltt htb htm hi0 h h1 hsrt hh
 refine (callsIn_wide (n := 9)).1 ?_
 refine callsIn_of_wp_marks Tryz.func21 rfl trivial ?_ rfl
 refine wpIn_wide.2 ?_
 simp only [Tryz.ntmps21, List.size_toArray, List.length_cons, List.length_nil, Nat.reduceAdd, Nat.reduceSub, Array.replicate_succ, Array.replicate_zero, List.push_toArray, List.append_toArray, List.nil_append, List.cons_append]
 go_upto_region 2 with fail
 rw [<- HW1.out]
 go_wp2_with fail
 refine HA1.out.mono ?_
 rintro _ _ ⟨rfl, ew⟩
 obtain rfl := ew.symm
 go_wp2_with fail
 have hseq := seq_gives 8 (by omega) X (w1.heap.size + 1) w1.heap.size tb 0 0 m (by omega) HWF.out HNM.out
 rw [HXS.out] at hseq
 refine wpIn_wide.1 (wpIn_givesU (β := Nat) (n := 9) (F := Fence.wide) rfl (by omega) (gf := 82) (lb := #[.pointer (some ⟨w1.heap.size + 1, 0, none⟩), .pointer (some ⟨w1.heap.size, 0, none⟩)]) rfl trivial (enters_of Tryz.func82 (by kernel_rfl) rfl)
  hseq (fun _ => rfl) (fun i W => i <= E.length /\ ∃ vp, LstI w w2 E i W vp) (fun _ _ => False) ?hI ?hIx ?hF ?h0
  (fun e b tt => ((tt.setIfInBounds 11 (pv e.1)).setIfInBounds 12 (.agg #[.int .u32 (e.2.x : Int), .int .i64 e.2.n, .int .u32 (e.2.via : Int), .bool e.2.loc])).setIfInBounds 5 (.pointer (some ⟨b, 0, none⟩))) (fun e b W => w2.heap.size <= b /\ W.heap[b]? = some (.cells #[.int .u32 (e.2.x : Int), .int .i64 e.2.n, .int .u32 (e.2.via : Int), .bool e.2.loc] 38)) ?hAy ?assign ?body ?done ?stop)
 case hI => exact LstI.own HS2.out
 case hIx =>
  rintro c W W' row h hg hr
  exact h.elim
 case hF =>
  rintro i W ⟨_, vp, h⟩
  have hs := HS1.out
  have htb := HTB.out
  have nt : NoTree w2 (fun b => b = w.heap.size) := fun b hb => by
   subst hb
   exact kind_no HT0.out.bp (by decide) (by decide)
  have kp' : ∀ {b : Nat} {o : Obj}, w2.heap[b]? = some o -> b ≠ w.heap.size -> W.heap[b]? = some o := fun hb h1 => (h.ch.block _ (gsl hb) (fun hx => h1 hx)).trans hb
  exact ⟨HSQ2.out.ls.chgT nt h.ch, kp' HSQ2.out.pb (by omega), kp' HSQ2.out.tx (by omega), kp' HSQ2.out.rt (by omega)⟩
 case h0 => exact ⟨Nat.zero_le _, _, HT0.out⟩
 case hAy =>
  rintro e b _ W W' row ⟨h1, h2⟩ hg hr
  refine ⟨h1, (hg.block _ (gsl h2) (fun he => ?_)).trans h2⟩
  obtain ⟨_, o, ho, hm⟩ := hr b he.symm
  rw [h2] at ho
  cases ho
  rcases hm with hm | ⟨cs, hm⟩ | ⟨cs, hm⟩
  ·cases hm
  ·injection hm with _ hm; exact absurd hm (by decide)
  ·injection hm with _ hm; exact absurd hm (by decide)
 case assign =>
  intro l i e W K hi hx hK
  obtain ⟨W2, HW2'⟩ : ∃ W2, Hid (W2 = W.alloc (.cells #[.int .u32 (e.2.x : Int), .int .i64 e.2.n, .int .u32 (e.2.via : Int), .bool e.2.loc] 38)) := ⟨_, rfl⟩
  have hbW : Below W.heap.size W W2 := by rw [HW2'.out]; exact bR.alloc nL _
  have hrW : W2.heap[W.heap.size]? = some (.cells #[.int .u32 (e.2.x : Int), .int .i64 e.2.n, .int .u32 (e.2.via : Int), .bool e.2.loc] 38) := by rw [HW2'.out]; exact heap_alloc_new W _
  have hsz : w2.heap.size <= W.heap.size := by obtain ⟨_, _, h⟩ := hi; exact h.sz
  have HK := hK W.heap.size W2 (KeepsN.of_below hbW) ((LstI.own HS2.out).below hi hbW) ⟨hsz, hrW⟩
  unfold pv at HK ⊢
  simp only [List.setIfInBounds_toArray, List.set_cons_zero, List.set_cons_succ] at HK ⊢
  clear hK hx hbW hrW hi
  gi_wp2
  rw [<- HW2'.out]
  exact HK
 case body =>
  rintro l i e b W hl _ ⟨hi, vp, h⟩ ⟨j1, j2⟩ hx
  have hs := HS2.out
  obtain ⟨ek, ev⟩ := e
  simp only at j2
  have hlt := (List.getElem?_eq_some_iff.1 hx).1
  have p0 : W.cell? ⟨b, 0, none⟩ = some (.int .u32 (ev.x : Int)) := crw j2 rfl
  have p1 : W.cell? ⟨b, 1, none⟩ = some (.int .i64 ev.n) := crw j2 rfl
  have p2 : W.cell? ⟨b, 2, none⟩ = some (.int .u32 (ev.via : Int)) := crw j2 rfl
  have p3 : W.cell? ⟨b, 3, none⟩ = some (.bool ev.loc) := crw j2 rfl
  have c4 : W.cell? ⟨w.heap.size, 0, none⟩ = some vp := crw h.bp rfl
  obtain ⟨ap, np, cp, hvp⟩ : ∃ a n c, vp = .slice a n c := by
   rcases h.rp.2 with ⟨hv, _⟩ | ⟨g, cap, cur, hv, _⟩
   ·exact ⟨_, _, _, hv⟩
   ·exact ⟨_, _, _, hv⟩
  subst hvp
  have HTI := hid h
  have HX := hid hx
  have b0 : i <= 256 := by omega
  clear h hx j1 j2 hl
  simp only [pv, List.setIfInBounds_toArray, List.set_cons_zero, List.set_cons_succ]
  gi_wp2_with (gi_at_builtin; refine wpListIn_append_own _ rfl _ _ 47 rfl w2.heap.size 38 i0 (.agg #[.int .u32 0, .int .i64 0, .int .u32 0, .bool false]) 4 24 (by kernel_rfl) HIP.out hz0 hz1 hz2 rfl (by decide) _ _ _ rfl (World.ownsRow.alloc HTI.out.rp _) ⟨W.heap.size, 0, none⟩ 1 1 [.int .u32 (ev.x : Int), .int .i64 ev.n, .int .u32 (ev.via : Int), .bool ev.loc] rfl rfl ?aa1 ?aa2 ?aa3 ?aa4 ?aa5 ?_)
  case aa1 => exact four_at rfl _ _ _ _ _
  case aa2 => intro u hu; simp at hu; rcases hu with rfl | rfl | rfl | rfl <;> rfl
  case aa3 => unfold maxLen; omega
  case aa4 => omega
  case aa5 => have := HTI.out.sz; simp; omega
  intro v6 w6 hown6 hgrow6 _
  obtain ⟨ht6, hk6, hb6⟩ := HTI.out.app HS2.out HX.out hown6 hgrow6
  obtain ⟨g6, cap6, rfl⟩ := ownsRow_succ ht6.rp
  have q0 : w6.cell? ⟨w.heap.size, 0, none⟩ = some (.slice ap np cp) := crw hb6 rfl
  have qf : w6.frozen? ⟨w.heap.size, 0, none⟩ = false := frozen_of_row _ _ _ _ _ hb6
  obtain ⟨W9, HW9⟩ : ∃ W9, Hid (W9 = w6.setCell ⟨w.heap.size, 0, none⟩ (.slice (some ⟨g6, 0, none⟩) (i + 1) cap6)) := ⟨_, rfl⟩
  rw [<- HW9.out] at ht6 hk6
  have HFIN : Hid (KeepsN w2.heap.size W W9 /\ i + 1 <= E.length /\ ∃ vp, LstI w w2 E (i + 1) W9 vp) := ⟨hk6, hlt, _, ht6⟩
  clear hown6 hgrow6 ht6 hk6 hb6 p0 p1 p2 p3 c4
  gi_wp2
  rw [<- HW9.out]
  exact HFIN.out
 case done =>
  rintro D W hD ⟨_, vp, h⟩ hK
  have c4 : W.cell? ⟨w.heap.size, 0, none⟩ = some vp := crw h.bp rfl
  obtain ⟨ap, np, cp, hvp⟩ : ∃ a n c, vp = .slice a n c := by
   rcases h.rp.2 with ⟨hv, _⟩ | ⟨g, cap, cur, hv, _⟩
   ·exact ⟨_, _, _, hv⟩
   ·exact ⟨_, _, _, hv⟩
  subst hvp
  have HKD := hid hK
  have hs := HS2.out
  have HDD : Hid (w.heap.size <= D) := Nat.le_trans HB02.out.size hD
  have hbW : Below w.heap.size w W := HB02.out.trans ⟨h.ch.os, h.ch.tape, h.ch.output, h.ch.size, fun j hj => h.ch.block j (by omega) (by omega)⟩
  have HBF := hid hbW
  have HRP : Hid (OwnR W w.heap.size (.slice ap np cp) (E.map Prod.snd)) := by
   have := row_base h.rp (by omega : w.heap.size <= w2.heap.size)
   unfold rtsTo at this
   rw [List.take_length] at this
   unfold Hid OwnR
   rw [List.length_map]
   exact this
  clear h hK hD hbW
  go_wp2_with fail
  have hKz : W.heap[D]? = some (.deferred (some [])) := HKD.out
  have hbf : Below w.heap.size w (W.putObj D (.deferred none)) := HBF.out.trans (belowK_b (w := w) nL W D _ _ HDD.out hKz rfl rfl)
  have hrp : OwnR (W.putObj D (.deferred none)) w.heap.size (.slice ap np cp) (E.map Prod.snd) := ownsRow_putObj (W := W) HRP.out _ hKz rfl
  refine ⟨by simp, .inl ⟨_, _, rfl, run_takeDeferred hKz, ?_⟩⟩
  exact ⟨_, results_tmp Tryz.results21 _ _ _, _, _, rfl, hrp, HSR.out, hbf⟩
 case stop =>
  rintro D c W hD h hK
  exact h.elim
end Go.Proofs.YtpdnnikkaojnkaaGreat.Rt
