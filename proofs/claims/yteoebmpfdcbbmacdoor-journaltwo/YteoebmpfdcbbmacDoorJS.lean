/-
  Sync.
-/
import Derived.Test.YteoebmpfdcbbmacDoorJR
namespace Go.Proofs.YteoebmpfdcbbmacDoor
open Go.ChangeShapes Go.WideShapes Go.ChangeAt Go.RowKit Jn N
set_option maxHeartbeats 4000000
set_option maxRecDepth 100000

/-- Two areas at the head of a block. -/
structure ArX (u : World) (q : Nat) (T : TypeId) (rest : Array Value) (d : Dk) (ga na ca gb nb cb : Nat) : Prop where
  row : u.heap[q]? = some (.cells (#[.slice (some ⟨ga, 0, none⟩) na ca, .slice (some ⟨gb, 0, none⟩) nb cb] ++ rest) T (0, 0))
  a : OwnB u 0 (.slice (some ⟨ga, 0, none⟩) na ca) d.1
  b : OwnB u 0 (.slice (some ⟨gb, 0, none⟩) nb cb) d.2
  ne : ga ≠ gb

theorem ArX.keeps {S : Nat → Prop} {u u' : World} {q : Nat} {T : TypeId} {rest : Array Value} {d : Dk} {ga na ca gb nb cb : Nat} (h : ArX u q T rest d ga na ca gb nb cb) (hk : Keeps S u u') (hq : ¬ S q) (ha : ¬ S ga) (hb : ¬ S gb) : ArX u' q T rest d ga na ca gb nb cb :=
  ⟨(hk.block q (Array.getElem?_eq_some_iff.1 h.row).1 hq).trans h.row, h.a.keeps hk (fun k e hs => by simp [Value.ownBlock] at e; exact ha (e ▸ hs)), h.b.keeps hk (fun k e hs => by simp [Value.ownBlock] at e; exact hb (e ▸ hs)), h.ne⟩

theorem take_ar (q : Nat) (T : TypeId) (rest : Array Value) (d : Dk) (ga na ca gb nb cb : Nat) (x : Wr) (v : Value) (kp : Nat) (w : World) (h : ArX w q T rest d ga na ca gb nb cb) (hT : T ≠ 5) (har : x.ar < 2) (hpl : x.pl ≤ (area d x.ar).length) (hv : SeesB w v x.bs) (hk0 : 0 < kp) (hkx : kp ≤ x.bs.length) (hsm : x.pl + kp ≤ 1099511627776) :
    Calls Tryd.prog 52 #[.pointer (some ⟨q, 0, none⟩), .agg #[.int .i64 (x.ar : Int), .int .i64 (x.pl : Int), v], .int .i64 (kp : Int)] w fun e w' => e = .returned (.tuple #[]) ∧ (∃ ga' na' ca' gb' nb' cb', ArX w' q T rest (put1 d x kp) ga' na' ca' gb' nb' cb' ∧ (ga' = ga ∨ (w.heap.size ≤ ga' ∧ ga' < w'.heap.size)) ∧ (gb' = gb ∨ (w.heap.size ≤ gb' ∧ gb' < w'.heap.size))) ∧ Keeps (fun k => k = q ∨ k = ga ∨ k = gb) w w' := by
  have la := h.a.lenB.2.2.2
  have lb := h.b.lenB.2.2.2
  have na' := h.a.ne_of h.row hT
  have nb' := h.b.ne_of h.row hT
  rcases (by omega : x.ar = 0 ∨ x.ar = 1) with e | e
  · rw [e]
    have hpl' : x.pl ≤ d.1.length := by rw [e] at hpl; exact hpl
    refine (take_any q 0 x.pl kp ga na ca (#[.slice (some ⟨ga, 0, none⟩) na ca, .slice (some ⟨gb, 0, none⟩) nb cb] ++ rest) T d.1 x.bs v w h.row hT (by omega) (by rw [Array.getElem?_append_left (by simp)]; rfl) h.a hv hpl' hk0 hkx hsm).mono ?_
    rintro e' w' ⟨g', c', rfl, hr, ho, hg, hk⟩
    have hp : put1 d x kp = (d.1.take x.pl ++ x.bs.take kp, d.2) := by unfold put1; rw [if_pos e]
    refine ⟨rfl, ⟨g', x.pl + kp, c', gb, nb, cb, ⟨?_, by rw [hp]; exact ho, ?_, ?_⟩, ?_, .inl rfl⟩, hk.mono (fun k _ e => e.imp id .inl)⟩
    · rw [hr]; congr 2; simp
    · rw [hp]
      exact h.b.keeps hk (fun k e1 e2 => by
        simp [Value.ownBlock] at e1
        rcases e2 with e2 | e2
        · omega
        · exact h.ne (by omega))
    · rcases hg with hg | hg
      · rw [hg]; exact h.ne
      · omega
    · exact hg.imp id (fun z => ⟨z, ho.lenB.2.2.2⟩)
  · rw [e]
    have hpl' : x.pl ≤ d.2.length := by rw [e] at hpl; exact hpl
    refine (take_any q 1 x.pl kp gb nb cb (#[.slice (some ⟨ga, 0, none⟩) na ca, .slice (some ⟨gb, 0, none⟩) nb cb] ++ rest) T d.2 x.bs v w h.row hT (by omega) (by rw [Array.getElem?_append_left (by simp)]; rfl) h.b hv hpl' hk0 hkx hsm).mono ?_
    rintro e' w' ⟨g', c', rfl, hr, ho, hg, hk⟩
    have hp : put1 d x kp = (d.1, d.2.take x.pl ++ x.bs.take kp) := by unfold put1; rw [if_neg (by omega)]
    refine ⟨rfl, ⟨ga, na, ca, g', x.pl + kp, c', ⟨?_, ?_, by rw [hp]; exact ho, ?_⟩, .inl rfl, ?_⟩, hk.mono (fun k _ e => e.imp id .inr)⟩
    · rw [hr]; congr 2; simp
    · rw [hp]
      exact h.a.keeps hk (fun k e1 e2 => by
        simp [Value.ownBlock] at e1
        rcases e2 with e2 | e2
        · omega
        · exact h.ne (by omega))
    · rcases hg with hg | hg
      · rw [hg]; exact h.ne
      · omega
    · exact hg.imp id (fun z => ⟨z, ho.lenB.2.2.2⟩)

/-- A journal in the midst of Sync: the first i writes are down. -/
structure SyX (w : World) (S : Nat → Prop) (p : Nat) (l : Lg) (vw : Value) (X : List Wv) (d : Dk) (wr : World) : Prop where
  ar : ∃ ga na ca gb nb cb, ArX wr p 76 #[vw, .int .i64 ((dirt l.ws : Nat) : Int), .int .i64 (l.cur : Int), .int .u32 (l.gen : Int), .int .u32 (l.fr : Int), .int .i64 (l.size : Int)] d ga na ca gb nb cb ∧ NewS S w.heap.size wr ga ∧ NewS S w.heap.size wr gb ∧ (∀ x ∈ X, ∀ a n c, x.v = .slice (some a) n c → a.block ≠ ga ∧ a.block ≠ gb) ∧ vw.ownBlock ≠ some ga ∧ vw.ownBlock ≠ some gb
  ws : OwnW wr 0 vw X
  by_ : ∀ x ∈ X, SeesB wr x.v x.bs
  kp : Keeps S w wr

theorem SyX.below {w wr u : World} {S : Nat → Prop} {p : Nat} {l : Lg} {vw : Value} {X : List Wv} {d : Dk} (h : SyX w S p l vw X d wr) (hb : Below wr.heap.size wr u) : SyX w S p l vw X d u := by
  obtain ⟨ga, na, ca, gb, nb, cb, q1, q2, q3, q4, q5⟩ := h.ar
  have hk : Keeps (fun _ => False) wr u := Keeps.of hb
  exact ⟨⟨ga, na, ca, gb, nb, cb, q1.keeps hk id id id, q2.imp id (fun z => ⟨z.1, Nat.lt_of_lt_of_le z.2 hb.size⟩), q3.imp id (fun z => ⟨z.1, Nat.lt_of_lt_of_le z.2 hb.size⟩), q4, q5⟩, h.ws.keeps hk (fun _ _ => id), fun x hx => (h.by_ x hx).below hb, h.kp.trans (Keeps.of hb)⟩

theorem sync_any (S : Nat → Prop) (p : Nat) (l : Lg) (w : World) (h : LogAt w S p l) (hok : l.Ok) (hl : l.ws.length ≤ 3000000000000) :
    Calls Tryd.prog 30 #[.pointer (some ⟨p, 0, none⟩)] w fun e w' => e = .returned (.tuple #[]) ∧ Left w w' S p l.syn := by
  obtain ⟨ga, na, ca, gb, nb, cb, vw, X, h⟩ := h
  have HL := hid h
  have HOK := hid hok
  obtain ⟨aw, n, cw, rfl, HN, hn1, hn2⟩ := h.ws.shape
  obtain ⟨-, -, c2, -, -, -, -, -, -⟩ := lg_cells h.row
  have hplt := h.lt p h.sp
  have HXL : Hid (X.length = l.ws.length) := by unfold Hid; rw [← h.wr, List.length_map]
  have hnn : n ≤ 3000000000000 := by have := HXL.out; have := HN.out; omega
  have H0 : Hid (SyX w S p l (.slice aw n cw) X (l.a, l.b) w) := by
    obtain ⟨ra, hra⟩ := h.a.row
    obtain ⟨rb, hrb⟩ := h.b.row
    exact ⟨⟨ga, na, ca, gb, nb, cb, ⟨h.row, h.a, h.b, h.ne⟩, .inl h.sa, .inl h.sb, fun x hx a n c e => ⟨((h.by_ x hx).2 a n c e).2.1, ((h.by_ x hx).2 a n c e).2.2.1⟩, h.ws.ne_of hra (by decide), h.ws.ne_of hrb (by decide)⟩, h.ws, fun x hx => (h.by_ x hx).1, Keeps.refl _ _⟩
  clear h hok hl
  go_enter Tryd.func30, Tryd.ntmps30
  go_wp2_with fail
  go_loopw [3, 9] (fun _ i wr => ∃ k : Nat, i = .int .i64 (k : Int) ∧ k ≤ n ∧ Hid (SyX w S p l (.slice aw n cw) X (play (l.a, l.b) (l.ws.take k)) wr)) (fun _ i _ => n - (intOf i).toNat)
  case atStart => exact ⟨0, rfl, Nat.zero_le _, H0⟩
  case round =>
    obtain ⟨k, rfl, hk, HSY⟩ := hrel
    clear c2
    by_cases hlt : k < n
    · obtain ⟨x, hx⟩ : ∃ x, X[k]? = some x := ⟨_, List.getElem?_eq_getElem (by have := HN.out; omega)⟩
      have hxm := List.mem_of_getElem? hx
      have hwk : l.ws[k]? = some x.wr := by rw [← HL.out.wr, List.getElem?_map, hx]; rfl
      obtain ⟨gw, rfl, hgw, hcells⟩ := HSY.out.ws.at hx
      obtain ⟨c0, c1, c2⟩ := hcells wr rfl
      have hokx : okW (play (l.a, l.b) (l.ws.take k)) (l.ws.drop k) := by
        have h1 := HOK.out.ws
        rw [← List.take_append_drop k l.ws, okW_append] at h1
        exact h1.2
      rw [List.drop_eq_getElem_cons (List.getElem?_eq_some_iff.1 hwk).1, (List.getElem?_eq_some_iff.1 hwk).2] at hokx
      obtain ⟨o1, o2, o3, o4, o5, -⟩ := hokx
      have HPL : Hid (play (l.a, l.b) (l.ws.take (k + 1)) = put1 (play (l.a, l.b) (l.ws.take k)) x.wr x.bs.length) := by
        unfold Hid; rw [take_snoc hwk, play_append]; rfl
      obtain ⟨W, HW⟩ : ∃ W, Hid (W = wr.alloc (.cells #[.int .i64 (x.ar : Int), .int .i64 (x.pl : Int), x.v] 101)) := ⟨_, rfl⟩
      have hbW : Below wr.heap.size wr W := by rw [HW.out]; exact (Below.refl _ _).alloc (Nat.le_refl _) _
      have hrW : W.heap[wr.heap.size]? = some (.cells #[.int .i64 (x.ar : Int), .int .i64 (x.pl : Int), x.v] 101 (0, 0)) := by rw [HW.out]; exact heap_alloc_new wr _
      have HSW := hid (HSY.out.below (hbW.trans (below_drew (Below.refl _ _))))
      obtain ⟨ga', na', ca', gb', nb', cb', q1, q2, q3, q4, q5, q6⟩ := HSW.out.ar
      have hsv := HSW.out.by_ x hxm
      have HTK := hid (take_ar p _ _ _ ga' na' ca' gb' nb' cb' x.wr x.v x.bs.length W.drew q1 (by decide) o1 o2 hsv o3 (Nat.le_refl _) (by have := o4; show x.pl + x.bs.length ≤ _; exact Nat.le_trans this (by omega)))
      have HNXT : Hid (∀ w', (∃ ga'' na'' ca'' gb'' nb'' cb'', ArX w' p 76 #[.slice (some ⟨gw, 0, none⟩) n cw, .int .i64 ((dirt l.ws : Nat) : Int), .int .i64 (l.cur : Int), .int .u32 (l.gen : Int), .int .u32 (l.fr : Int), .int .i64 (l.size : Int)] (put1 (play (l.a, l.b) (l.ws.take k)) x.wr x.bs.length) ga'' na'' ca'' gb'' nb'' cb'' ∧ (ga'' = ga' ∨ (W.drew.heap.size ≤ ga'' ∧ ga'' < w'.heap.size)) ∧ (gb'' = gb' ∨ (W.drew.heap.size ≤ gb'' ∧ gb'' < w'.heap.size))) → Keeps (fun k => k = p ∨ k = ga' ∨ k = gb') W.drew w' → SyX w S p l (.slice (some ⟨gw, 0, none⟩) n cw) X (play (l.a, l.b) (l.ws.take (k + 1))) w') := by
        rintro w' ⟨ga'', na'', ca'', gb'', nb'', cb'', r1, r2, r3⟩ hk'
        rw [HPL.out]
        have hsz := HSW.out.kp.size
        have hsz' := hk'.size
        have nS : ∀ (y z : Nat), NewS S w.heap.size W.drew y → (z = y ∨ (W.drew.heap.size ≤ z ∧ z < w'.heap.size)) → NewS S w.heap.size w' z := fun y z hy hz => by
          rcases hz with rfl | hz
          · exact hy.imp id (fun t => ⟨t.1, Nat.lt_of_lt_of_le t.2 hsz'⟩)
          · exact .inr ⟨by omega, hz.2⟩
        have inS : ∀ y, NewS S w.heap.size W.drew y → y < w.heap.size → S y := fun y hy hl => by
          rcases hy with hy | hy
          · exact hy
          · omega
        have bl : ∀ x ∈ X, ∀ a n c, x.v = .slice (some a) n c → a.block < w.heap.size := fun x hx a n c e => HL.out.lt _ ((HL.out.by_ x hx).2 a n c e).1
        have hwl : gw < w.heap.size := HL.out.lt _ (HL.out.sw gw rfl)
        refine ⟨⟨ga'', na'', ca'', gb'', nb'', cb'', r1, nS _ _ q2 r2, nS _ _ q3 r3, fun x hx a n c e => ?_, ?_, ?_⟩, ?_, ?_, ?_⟩
        · have h1 := q4 x hx a n c e
          have h2 := bl x hx a n c e
          refine ⟨fun e' => ?_, fun e' => ?_⟩
          · rcases r2 with r2 | r2
            · exact h1.1 (e'.trans r2)
            · omega
          · rcases r3 with r3 | r3
            · exact h1.2 (e'.trans r3)
            · omega
        · rcases r2 with r2 | r2
          · rw [r2]; exact q5
          · simp [Value.ownBlock]; omega
        · rcases r3 with r3 | r3
          · rw [r3]; exact q6
          · simp [Value.ownBlock]; omega
        · refine HSW.out.ws.keeps hk' (fun j hj hs => ?_)
          rcases hs with hs | hs | hs
          · exact (HL.out.ws.ne_of HL.out.row (by decide)) (hj.trans (by rw [hs]))
          · exact q5 (hj.trans (by rw [hs]))
          · exact q6 (hj.trans (by rw [hs]))
        · intro x hx
          refine (HSW.out.by_ x hx).keeps hk' (fun a n c e hs => ?_)
          rcases hs with hs | hs | hs
          · exact ((HL.out.by_ x hx).2 a n c e).2.2.2.1 hs
          · exact (q4 x hx a n c e).1 hs
          · exact (q4 x hx a n c e).2 hs
        · refine ⟨hk'.os.trans HSW.out.kp.os, hk'.tape.trans HSW.out.kp.tape, hk'.output.trans HSW.out.kp.output, Nat.le_trans hsz hsz', fun j hj hn => ?_⟩
          refine (hk'.block j (Nat.lt_of_lt_of_le hj hsz) (fun hs => hn ?_)).trans (HSW.out.kp.block j hj hn)
          rcases hs with rfl | rfl | rfl
          · exact HL.out.sp
          · exact inS _ q2 hj
          · exact inS _ q3 hj
      obtain ⟨ax, nx, cx, hxv, HNX, -, -⟩ := hsv.shape
      obtain ⟨xar, xpl, xv, xbs⟩ := x
      simp only at *
      subst hxv
      have hnx : nx = xbs.length := HNX.out
      simp only [Wv.wr] at HTK
      rw [← hnx] at HTK HNXT
      have z0 : W.cell? ⟨wr.heap.size, 0, none⟩ = some (.int .i64 (xar : Int)) := by rw [cell_of_row _ _ _ _ _ _ hrW]; rfl
      have z1 : W.cell? ⟨wr.heap.size, 1, none⟩ = some (.int .i64 (xpl : Int)) := by rw [cell_of_row _ _ _ _ _ _ hrW]; rfl
      have z2 : W.cell? ⟨wr.heap.size, 2, none⟩ = some (.slice ax nx cx) := by rw [cell_of_row _ _ _ _ _ _ hrW]; rfl
      clear hsv hbW hrW hcells hxm hx hwk q1 q2 q3 q4 q5 q6 o1 o2 o3 o4 o5
      clear hnx HPL
      go_upto_region 3 with fail
      rw [← HW.out]
      refine wp_region_still_tail 7 (by kernel_rfl) (by kernel_rfl) ?_
      simp only [List.take_succ_cons, List.take_zero, List.drop_succ_cons, List.drop_zero]
      iterate 7 still_step
      refine wpStill_nil ?_
      go_wp2_with fail
      refine HTK.out.mono ?_
      rintro _ w' ⟨rfl, hex, hkk⟩
      have HN2 := hid (HNXT.out w' hex hkk)
      clear hex hkk
      go_wp2_with fail
      go_roundw
      case rel => exact ⟨k + 1, by go_num, by omega, HN2⟩
      case measure => simp [intOf]; omega
    · have HALL : Hid (SyX w S p l (.slice aw n cw) X (play (l.a, l.b) l.ws) wr) := by
        have h1 := HSY.out
        rw [List.take_of_length_le (by have := HXL.out; have := HN.out; omega)] at h1
        exact h1
      obtain ⟨ga', na', ca', gb', nb', cb', q1, q2, q3, q4, q5, q6⟩ := HALL.out.ar
      have hrow : wr.heap[p]? = some (lgRow (.slice (some ⟨ga', 0, none⟩) na' ca') (.slice (some ⟨gb', 0, none⟩) nb' cb') (.slice aw n cw) (dirt l.ws) l.cur l.gen l.fr l.size) := q1.row
      obtain ⟨-, -, d2, d3, -, -, -, -, df⟩ := lg_cells hrow
      have HFIN : Hid (Left w ((wr.setCell ⟨p, 2, none⟩ (.slice none 0 0)).setCell ⟨p, 3, none⟩ (.int .i64 0)) S p l.syn) := by
        have hkU : Keeps (At1 p) wr ((wr.setCell ⟨p, 2, none⟩ (.slice none 0 0)).setCell ⟨p, 3, none⟩ (.int .i64 0)) := ((Keeps.refl (At1 p) wr).set ⟨p, 2, none⟩ rfl _).set ⟨p, 3, none⟩ rfl _
        have hsU : ((wr.setCell ⟨p, 2, none⟩ (.slice none 0 0)).setCell ⟨p, 3, none⟩ (.int .i64 0)).heap.size = wr.heap.size := by simp [World.setCell]
        have hrU : ((wr.setCell ⟨p, 2, none⟩ (.slice none 0 0)).setCell ⟨p, 3, none⟩ (.int .i64 0)).heap[p]? = some (lgRow (.slice (some ⟨ga', 0, none⟩) na' ca') (.slice (some ⟨gb', 0, none⟩) nb' cb') (.slice none 0 0) 0 l.cur l.gen l.fr l.size) := by
          unfold lgRow at hrow ⊢
          rw [set_cells (set_cells hrow)]
          rfl
        generalize ((wr.setCell ⟨p, 2, none⟩ (.slice none 0 0)).setCell ⟨p, 3, none⟩ (.int .i64 0)) = U at *
        have npa : ga' ≠ p := q1.a.ne_of hrow (by decide)
        have npb : gb' ≠ p := q1.b.ne_of hrow (by decide)
        refine ⟨⟨ga', na', ca', gb', nb', cb', .slice none 0 0, [], hrU, q1.a.keeps hkU (fun k e1 e2 => by simp [Value.ownBlock] at e1; unfold At1 at e2; omega), q1.b.keeps hkU (fun k e1 e2 => by simp [Value.ownBlock] at e1; unfold At1 at e2; omega), q1.ne, ownW_nil _ _, rfl, fun x hx => by simp at hx, .inl HL.out.sp, q2.imp id (fun z => ⟨z.1, by rw [hsU]; exact z.2⟩), q3.imp id (fun z => ⟨z.1, by rw [hsU]; exact z.2⟩), fun k hk => by simp [Value.ownBlock] at hk, fun k hk => ?_⟩, HOK.out.syn, HALL.out.kp.trans (hkU.mono (fun k _ e => by unfold At1 at e; exact e ▸ HL.out.sp))⟩
        rcases hk with hk | ⟨-, hk⟩
        · rw [hsU]; exact Nat.lt_of_lt_of_le (HL.out.lt k hk) HALL.out.kp.size
        · exact hk
      have hplr : p < wr.heap.size := (Array.getElem?_eq_some_iff.1 hrow).1
      clear q1 q2 q3 q4 q5 q6 hrow
      go_wp2_with fail
      exact bodyPost_end (results_none Tryd.results30 _ _ _) rfl ⟨rfl, HFIN.out⟩
end Go.Proofs.YteoebmpfdcbbmacDoor
