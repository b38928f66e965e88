import Derived.Test.YtpdnnikkaojnkaaGreatYKP
namespace Go.Proofs.YtpdnnikkaojnkaaGreat.Rt
open Go.Proofs.YtpdnnikkaojnkaaGreat Go.ChangeShapes Go.WideShapes Go.ChangeAt Go.RowKit Go.Maps Tri N
set_option maxHeartbeats 8000000
set_option maxRecDepth 100000
theorem Ks.Ok.clrR {s : Ks} (h : s.Ok) : ({ s with R := [] } : Ks).Ok := ⟨List.nodup_nil, fun v hv => (by cases hv), ⟨Nat.zero_le _, h.rl.2⟩, h.nn, h.nk, h.nl, h.fn, h.fk, h.fl⟩
theorem Ks.Ok.clrN {s : Ks} (h : s.Ok) : ({ s with N := [] } : Ks).Ok := ⟨h.rn, h.rk, h.rl, List.nodup_nil, fun v hv => (by cases hv), ⟨Nat.zero_le _, h.nl.2⟩, h.fn, h.fk, h.fl⟩
theorem Ks.Ok.clrF {s : Ks} (h : s.Ok) : ({ s with F := [] } : Ks).Ok := ⟨h.rn, h.rk, h.rl, h.nn, h.nk, h.nl, List.nodup_nil, fun v hv => (by cases hv), ⟨Nat.zero_le _, h.fl.2⟩⟩
theorem KAt.newR {w w' : World} {X : Nat -> Prop} {b : Bks} {s : Ks} (h : KAt w X b s) (hr : RtAt w' (fun c => X c \/ c = w.heap.size) b.rb w.heap.size s.cr []) (hc : Chg (fun c => c = b.rb) w w') : KAt w' (fun c => X c \/ c = w.heap.size) { b with tb := w.heap.size } { s with R := [] } := by
 have hn := h.nd
 simp only [List.nodup_cons, List.mem_cons, List.not_mem_nil, or_false, not_or, List.nodup_nil, not_false_eq_true, and_true] at hn
 have hk : ∀ c, c ≠ b.rb -> c < w.heap.size -> w'.heap[c]? = w.heap[c]? := fun c hm hl => hc.block c hl hm
 have l1 := h.lt _ h.mem.1
 have l2 := h.rt.lt.1
 have l3 := h.nt.lt
 have l4 := h.ft.lt
 refine ⟨(hk _ (by omega) l1).trans h.row, hr, h.nt.kept (hk _ (by omega) l3.1) (hk _ (by omega) l3.2), h.ft.kept (hk _ (by omega) l4.1) (hk _ (by omega) l4.2), h.ok.clrR, ⟨.inl h.mem.1, .inl h.mem.2.1, .inl h.mem.2.2.1, .inl h.mem.2.2.2.1, .inl h.mem.2.2.2.2⟩, ?_⟩
 simp only [List.nodup_cons, List.mem_cons, List.not_mem_nil, or_false, not_or, List.nodup_nil, not_false_eq_true, and_true]
 omega
def Flu (w w' : World) (X : Nat -> Prop) (b : Bks) (s : Ks) : Prop := KAt w' (fun c => X c \/ c = w.heap.size) { b with tb := w.heap.size } { s with R := [], N := [], F := [] } /\ Chg (fun c => c = b.rb \/ c = b.bm \/ c = b.fm) w w'
theorem flush_any {X : Nat -> Prop} {b : Bks} {s : Ks} (w : World) (h : KAt w X b s) :
  Calls Tryz.prog 13 #[.pointer (some ⟨b.kb, 0, none⟩)] w fun e w' => e = .returned (.tuple #[]) /\ Flu w w' X b s := by
 obtain ⟨c0, -, -⟩ := h.cells
 have HE := hid (emptyR_any w h.rt)
 have HK := hid h
 clear h
 go_enter Tryz.func13, Tryz.ntmps13
 go_wp2_with fail
 refine HE.out.mono ?_
 rintro _ w1 ⟨rfl, hr, hc, -⟩
 have k1 := HK.out.newR hr hc
 obtain ⟨-, c1, -⟩ := k1.cells
 have c1' : w1.cell? ⟨b.kb, 1, none⟩ = some (.pointer (some ⟨b.nb, 0, none⟩)) := c1
 have HE1 := hid (emptyN_any w1 k1.nt)
 have HK1 := hid k1
 have HC1 := hid hc
 clear k1 hr hc c1 c0 HE
 go_wp2_with fail
 refine HE1.out.mono ?_
 rintro _ w2 ⟨rfl, hr, hc⟩
 have k2 := HK1.out.setN hr hc HK1.out.ok.clrN
 obtain ⟨-, -, c2⟩ := k2.cells
 have c2' : w2.cell? ⟨b.kb, 2, none⟩ = some (.pointer (some ⟨b.fb, 0, none⟩)) := c2
 have HE2 := hid (emptyF_any w2 k2.ft)
 have HK2 := hid k2
 have HC2 := hid hc
 clear k2 hr hc c2 c1' HE1
 go_wp2_with fail
 refine HE2.out.mono ?_
 rintro _ w3 ⟨rfl, hr, hc⟩
 have HF : Hid (Flu w w3 X b s) := by
  refine ⟨HK2.out.setF hr hc HK2.out.ok.clrF, ((HC1.out.mono fun c e => by simp [e]).trans (HC2.out.mono fun c e => ?_)).trans (hc.mono fun c e => ?_)⟩
  ·have e' : c = b.bm := e
   simp [e']
  ·have e' : c = b.fm := e
   simp [e']
 clear hr hc c2' HE2
 go_wp2_with fail
 exact bodyPost_end (results_none Tryz.results13 _ _ _) rfl ⟨rfl, HF.out⟩
def DR (w : World) (B : Nat) (s : Ks) (v : Value) : Prop := ∃ L, OwnR w B v L /\ SrtK Tri.Vt.num L s.R
def DN (w : World) (B : Nat) (s : Ks) (v : Value) : Prop := ∃ L, OwnEN w B v L /\ SrtK (fun e : Nb => e.ip) L s.N
def DF (w : World) (B : Nat) (s : Ks) (v : Value) : Prop := ∃ L, OwnEF w B v L /\ SrtK (fun e : Fd => e.mac.num) L s.F
theorem DR.below {w w' : World} {B : Nat} {s : Ks} {v : Value} (h : DR w B s v) (hb : Below w.heap.size w w') : DR w' B s v := by
 obtain ⟨L, h1, h2⟩ := h
 exact ⟨L, owns_below h1 hb, h2⟩
theorem DN.below {w w' : World} {B : Nat} {s : Ks} {v : Value} (h : DN w B s v) (hb : Below w.heap.size w w') : DN w' B s v := by
 obtain ⟨L, h1, h2⟩ := h
 exact ⟨L, owns_below h1 hb, h2⟩
theorem DF.below {w w' : World} {B : Nat} {s : Ks} {v : Value} (h : DF w B s v) (hb : Below w.heap.size w w') : DF w' B s v := by
 obtain ⟨L, h1, h2⟩ := h
 exact ⟨L, owns_below h1 hb, h2⟩
theorem own_sl {w : World} {base : Nat} {e : TypeId} {size n : Nat} {v : Value} {xs : List Value} (h : w.ownsRow base e size v n xs) : ∃ a n c, v = .slice a n c := by
 rcases h.2 with ⟨hv, _⟩ | ⟨g, cap, cur, hv, _⟩
 ·exact ⟨_, _, _, hv⟩
 ·exact ⟨_, _, _, hv⟩
def FDu (l : List (Value ⊕ Nw)) (B : Nat) (s : Ks) (i : Nat) (v : Value) (w : World) : Prop :=
 (i = 4 -> DR w B s v) /\ (i = 9 -> DN w B s v) /\ (i = 14 -> DF w B s v) /\ (i = 15 -> ∃ x y z, v = .agg #[x, y, z] /\ DR w B s x /\ DN w B s y /\ DF w B s z) /\ (i ≠ 4 /\ i ≠ 9 /\ i ≠ 14 /\ i ≠ 15 -> FA l 0 i v w)
theorem FDu.keeps (l : List (Value ⊕ Nw)) (B : Nat) (s : Ks) : ∀ (i : Nat) (v : Value) (w w' : World), FDu l B s i v w -> Below w.heap.size w w' -> FDu l B s i v w' := fun i v w w' h hb =>
 ⟨fun e => (h.1 e).below hb, fun e => (h.2.1 e).below hb, fun e => (h.2.2.1 e).below hb, fun e => by
  obtain ⟨x, y, z, h1, h2, h3, h4⟩ := h.2.2.2.1 e
  exact ⟨x, y, z, h1, h2.below hb, h3.below hb, h4.below hb⟩, fun e => FA.keeps _ _ _ _ _ _ (h.2.2.2.2 e) hb⟩
theorem FDu.dep {l : List (Value ⊕ Nw)} {B : Nat} {s : Ks} {i : Nat} {a : Act} {t : Operand} {x y : Value} {w : World} (h : a.eval t = x /\ FDu l B s i x w) (h7 : i ≠ 4 /\ i ≠ 9 /\ i ≠ 14 /\ i ≠ 15) (hy : l[i]? = some (.inl y)) : a.eval t = y := FA.dep ⟨h.1, h.2.2.2.2.2 h7⟩ hy
theorem fdu_mk {l : List (Value ⊕ Nw)} {B : Nat} {s : Ks} {i : Nat} {v : Value} {w : World} (h7 : i ≠ 4 /\ i ≠ 9 /\ i ≠ 14 /\ i ≠ 15) (hy : l[i]? = some (.inl v)) : FDu l B s i v w := ⟨fun e => absurd e h7.1, fun e => absurd e h7.2.1, fun e => absurd e h7.2.2.1, fun e => absurd e h7.2.2.2, fun _ => fa_mk hy⟩
theorem fdu_still {P : Program} {o : Oper} {a : Act} {W w : World} {Q : Exit -> Act -> World -> Prop} {l : List (Value ⊕ Nw)} {B : Nat} {s : Ks} {i : Nat} {t : Tmp} (v : Value) (hr : (execOp a.eval o).run P w = .ok (.value v) w) (ht : o.dst = some t) (hF : FDu l B s i v w) (hW : Below W.heap.size W w) :
  o.wp P a w (fun a' w' => ∃ v', a' = a.put (some t) v' /\ FDu l B s i v' w' /\ Below W.heap.size W w' /\ Below w.heap.size w w') Q :=
 wp_val hr (by rw [ht]; exact ⟨v, rfl, hF, hW, bR⟩)
def Dmp (w w' : World) (s : Ks) (v : Value) : Prop := ∃ x y z, v = .agg #[x, y, z] /\ DR w' w.heap.size s x /\ DN w' w.heap.size s y /\ DF w' w.heap.size s z /\ Below w.heap.size w w'
theorem dump_any {X : Nat -> Prop} {b : Bks} {s : Ks} (w : World) (h : KAt w X b s) :
  Calls Tryz.prog 8 #[.pointer (some ⟨b.kb, 0, none⟩)] w fun e w' => ∃ v, e = .returned v /\ Dmp w w' s v := by
 obtain ⟨w1, hw1⟩ : ∃ w1, w1 = w.alloc (.cells #[.slice none 0 0, .slice none 0 0, .slice none 0 0] 51) := ⟨_, rfl⟩
 have hb1 : Below w.heap.size w w1 := by rw [hw1]; exact bR.alloc nL _
 have hs1 : w1.heap.size = w.heap.size + 1 := by rw [hw1]; simp
 have r1 : w1.heap[w.heap.size]? = some (.cells #[.slice none 0 0, .slice none 0 0, .slice none 0 0] 51) := by rw [hw1]; exact heap_alloc_new w _
 have HK := hid (h.below hb1)
 have HW1 := hid hw1
 have HB1 := hid hb1
 have HS1 := hid hs1
 have HR1 := hid r1
 clear h hw1 hb1 hs1 r1
 go_enter Tryz.func8, Tryz.ntmps8
 go_upto_region 1 with fail
 rw [<- HW1.out]
 refine wp_region_mono' 16 (fun i => ([3, 4, 5, 6, 7, 8, 9, 10, 11, 12, 13, 14, 15, 16, 17, 18] : List Tmp).getD i 0) (FDu [.inl (.pointer (some ⟨b.kb, 0, none⟩)), .inl (.pointer (some ⟨b.kb, 0, none⟩)), .inl (.pointer (some ⟨b.kb, 0, none⟩)), .inl (.pointer (some ⟨b.rb, 0, none⟩)), .inl (undef), .inl (.pointer (some ⟨b.kb, 0, none⟩)), .inl (.pointer (some ⟨b.kb, 0, none⟩)), .inl (.pointer (some ⟨b.kb, 1, none⟩)), .inl (.pointer (some ⟨b.nb, 0, none⟩)), .inl (undef), .inl (.pointer (some ⟨b.kb, 0, none⟩)), .inl (.pointer (some ⟨b.kb, 0, none⟩)), .inl (.pointer (some ⟨b.kb, 2, none⟩)), .inl (.pointer (some ⟨b.fb, 0, none⟩)), .inl (undef), .inl (undef)] w1.heap.size s) (by kernel_rfl) (by kernel_rfl) (FDu.keeps _ _ _) ?_ ?_
 ·simp only [List.take_succ_cons, List.take_zero, stepsOk]
  refine ⟨?_, ?_, ?_, ?_, ?_, ?_, ?_, ?_, ?_, ?_, ?_, ?_, ?_, ?_, ?_, ?_, trivial⟩
  ·intro a y vs hb hold hdep
   exact fdu_still (.pointer (some ⟨b.kb, 0, none⟩)) (ex_move (.tmp 0) _ rfl (hold 0 (dlM (L := [3, 4, 5, 6, 7, 8, 9, 10, 11, 12, 13, 14, 15, 16, 17, 18]) (by decide)))) rfl (fdu_mk (by decide) rfl) hb
  ·intro a y vs hb hold hdep
   exact fdu_still (.pointer (some ⟨b.kb, 0, none⟩)) (ex_nil ⟨b.kb, 0, none⟩ (.tmp 3) rfl (FDu.dep (hdep ⟨0, .data⟩ (by simp) rfl (by decide)) (by decide) rfl)) rfl (fdu_mk (by decide) rfl) hb
  ·intro a y vs hb hold hdep
   exact fdu_still (.pointer (some ⟨b.kb, 0, none⟩)) (ex_field _ ⟨b.kb, 0, none⟩ (.tmp 4) 0 _ rfl (FDu.dep (hdep ⟨1, .data⟩ (by simp) rfl (by decide)) (by decide) rfl) (by kernel_rfl)) rfl (fdu_mk (by decide) rfl) hb
  ·intro a y vs hb hold hdep
   have hc := (HK.out.below hb).cells.1
   exact fdu_still (.pointer (some ⟨b.rb, 0, none⟩)) (ex_load _ ⟨b.kb, 0, none⟩ (.tmp 5) _ rfl (FDu.dep (hdep ⟨2, .data⟩ (by simp) rfl (by decide)) (by decide) rfl) (by simp [go_sem, hc])) rfl (fdu_mk (by decide) rfl) hb
  ·intro a y vs hb hold hdep
   have e0 : a.eval (.tmp 6) = .pointer (some ⟨b.rb, 0, none⟩) := (FDu.dep (hdep ⟨3, .data⟩ (by simp) rfl (by decide)) (by decide) rfl)
   refine wp_call 21 _ _ rfl (enters_of Tryz.func21 (by kernel_rfl) rfl) #[.pointer (some ⟨b.rb, 0, none⟩)] (by simp only [List.map_toArray, List.map_cons, List.map_nil, e0]) ?_
   refine (listR_any y (HK.out.below hb).rt).mono ?_
   rintro e y' ⟨v, L, rfl, hown, hsr, hb'⟩
   exact ⟨_, rfl, _, rfl, ⟨fun _ => ⟨L, row_base hown hb.size, hsr⟩, fun e => absurd e (by decide), fun e => absurd e (by decide), fun e => absurd e (by decide), fun e => absurd rfl e.1⟩, hb.trans (hb'.mono hb.size), hb'⟩
  ·intro a y vs hb hold hdep
   exact fdu_still (.pointer (some ⟨b.kb, 0, none⟩)) (ex_move (.tmp 0) _ rfl (hold 0 (dlM (L := [3, 4, 5, 6, 7, 8, 9, 10, 11, 12, 13, 14, 15, 16, 17, 18]) (by decide)))) rfl (fdu_mk (by decide) rfl) hb
  ·intro a y vs hb hold hdep
   exact fdu_still (.pointer (some ⟨b.kb, 0, none⟩)) (ex_nil ⟨b.kb, 0, none⟩ (.tmp 8) rfl (FDu.dep (hdep ⟨5, .data⟩ (by simp) rfl (by decide)) (by decide) rfl)) rfl (fdu_mk (by decide) rfl) hb
  ·intro a y vs hb hold hdep
   exact fdu_still (.pointer (some ⟨b.kb, 1, none⟩)) (ex_field _ ⟨b.kb, 0, none⟩ (.tmp 9) 1 _ rfl (FDu.dep (hdep ⟨6, .data⟩ (by simp) rfl (by decide)) (by decide) rfl) (by kernel_rfl)) rfl (fdu_mk (by decide) rfl) hb
  ·intro a y vs hb hold hdep
   have hc := (HK.out.below hb).cells.2.1
   exact fdu_still (.pointer (some ⟨b.nb, 0, none⟩)) (ex_load _ ⟨b.kb, 1, none⟩ (.tmp 10) _ rfl (FDu.dep (hdep ⟨7, .data⟩ (by simp) rfl (by decide)) (by decide) rfl) (by simp [go_sem, hc])) rfl (fdu_mk (by decide) rfl) hb
  ·intro a y vs hb hold hdep
   have e0 : a.eval (.tmp 11) = .pointer (some ⟨b.nb, 0, none⟩) := (FDu.dep (hdep ⟨8, .data⟩ (by simp) rfl (by decide)) (by decide) rfl)
   refine wp_call 22 _ _ rfl (enters_of Tryz.func22 (by kernel_rfl) rfl) #[.pointer (some ⟨b.nb, 0, none⟩)] (by simp only [List.map_toArray, List.map_cons, List.map_nil, e0]) ?_
   refine (listN_any y (HK.out.below hb).nt (fun e he => (HK.out.ok.nk e he).1)).mono ?_
   rintro e y' ⟨v, L, rfl, hown, hsr, hb'⟩
   exact ⟨_, rfl, _, rfl, ⟨fun e => absurd e (by decide), fun _ => ⟨L, row_base hown hb.size, hsr⟩, fun e => absurd e (by decide), fun e => absurd e (by decide), fun e => absurd rfl e.2.1⟩, hb.trans (hb'.mono hb.size), hb'⟩
  ·intro a y vs hb hold hdep
   exact fdu_still (.pointer (some ⟨b.kb, 0, none⟩)) (ex_move (.tmp 0) _ rfl (hold 0 (dlM (L := [3, 4, 5, 6, 7, 8, 9, 10, 11, 12, 13, 14, 15, 16, 17, 18]) (by decide)))) rfl (fdu_mk (by decide) rfl) hb
  ·intro a y vs hb hold hdep
   exact fdu_still (.pointer (some ⟨b.kb, 0, none⟩)) (ex_nil ⟨b.kb, 0, none⟩ (.tmp 13) rfl (FDu.dep (hdep ⟨10, .data⟩ (by simp) rfl (by decide)) (by decide) rfl)) rfl (fdu_mk (by decide) rfl) hb
  ·intro a y vs hb hold hdep
   exact fdu_still (.pointer (some ⟨b.kb, 2, none⟩)) (ex_field _ ⟨b.kb, 0, none⟩ (.tmp 14) 2 _ rfl (FDu.dep (hdep ⟨11, .data⟩ (by simp) rfl (by decide)) (by decide) rfl) (by kernel_rfl)) rfl (fdu_mk (by decide) rfl) hb
  ·intro a y vs hb hold hdep
   have hc := (HK.out.below hb).cells.2.2
   exact fdu_still (.pointer (some ⟨b.fb, 0, none⟩)) (ex_load _ ⟨b.kb, 2, none⟩ (.tmp 15) _ rfl (FDu.dep (hdep ⟨12, .data⟩ (by simp) rfl (by decide)) (by decide) rfl) (by simp [go_sem, hc])) rfl (fdu_mk (by decide) rfl) hb
  ·intro a y vs hb hold hdep
   have e0 : a.eval (.tmp 16) = .pointer (some ⟨b.fb, 0, none⟩) := (FDu.dep (hdep ⟨13, .data⟩ (by simp) rfl (by decide)) (by decide) rfl)
   refine wp_call 23 _ _ rfl (enters_of Tryz.func23 (by kernel_rfl) rfl) #[.pointer (some ⟨b.fb, 0, none⟩)] (by simp only [List.map_toArray, List.map_cons, List.map_nil, e0]) ?_
   refine (listF_any y (HK.out.below hb).ft (fun e he => (HK.out.ok.fk e he).1)).mono ?_
   rintro e y' ⟨v, L, rfl, hown, hsr, hb'⟩
   exact ⟨_, rfl, _, rfl, ⟨fun e => absurd e (by decide), fun e => absurd e (by decide), fun _ => ⟨L, row_base hown hb.size, hsr⟩, fun e => absurd e (by decide), fun e => absurd rfl e.2.2.1⟩, hb.trans (hb'.mono hb.size), hb'⟩
  ·intro a y vs hb hold hdep
   have d4 := hdep ⟨4, .data⟩ (by simp) rfl (by decide)
   have d9 := hdep ⟨9, .data⟩ (by simp) rfl (by decide)
   have d14 := hdep ⟨14, .data⟩ (by simp) rfl (by decide)
   have g4 := d4.2.1 rfl
   have g9 := d9.2.2.1 rfl
   have g14 := d14.2.2.2.1 rfl
   obtain ⟨L1, o1, _⟩ := g4
   obtain ⟨L2, o2, _⟩ := g9
   obtain ⟨L3, o3, _⟩ := g14
   obtain ⟨a1, n1, k1, q1⟩ := own_sl o1
   obtain ⟨a2, n2, k2, q2⟩ := own_sl o2
   obtain ⟨a3, n3, k3, q3⟩ := own_sl o3
   have e4 := d4.1.trans q1
   have e9 := d9.1.trans q2
   have e14 := d14.1.trans q3
   refine fdu_still (.agg #[.slice a1 n1 k1, .slice a2 n2 k2, .slice a3 n3 k3]) (ex_build 51 #[(0, .tmp 7), (1, .tmp 12), (2, .tmp 17)] #[(0, .slice a1 n1 k1), (1, .slice a2 n2 k2), (2, .slice a3 n3 k3)] _ rfl (by simp only [List.map_toArray, List.map_cons, List.map_nil]; exact congrArg _ (by rw [show a.eval (.tmp 7) = _ from e4, show a.eval (.tmp 12) = _ from e9, show a.eval (.tmp 17) = _ from e14])) (by kernel_rfl)) rfl ⟨fun e => absurd e (by decide), fun e => absurd e (by decide), fun e => absurd e (by decide), fun _ => ⟨_, _, _, rfl, ?_, ?_, ?_⟩, fun e => absurd rfl e.2.2.2⟩ hb
   ·have := d4.2.1 rfl
    rw [q1] at this
    exact this
   ·have := d9.2.2.1 rfl
    rw [q2] at this
    exact this
   ·have := d14.2.2.2.1 rfl
    rw [q3] at this
    exact this
 intro vs y hb hF
 have e0 : vs 0 = .pointer (some ⟨b.kb, 0, none⟩) := ((hF 0 (by decide)).2.2.2.2 (by decide)).is rfl
 have e1 : vs 1 = .pointer (some ⟨b.kb, 0, none⟩) := ((hF 1 (by decide)).2.2.2.2 (by decide)).is rfl
 have e2 : vs 2 = .pointer (some ⟨b.kb, 0, none⟩) := ((hF 2 (by decide)).2.2.2.2 (by decide)).is rfl
 have e3 : vs 3 = .pointer (some ⟨b.rb, 0, none⟩) := ((hF 3 (by decide)).2.2.2.2 (by decide)).is rfl
 have e5 : vs 5 = .pointer (some ⟨b.kb, 0, none⟩) := ((hF 5 (by decide)).2.2.2.2 (by decide)).is rfl
 have e6 : vs 6 = .pointer (some ⟨b.kb, 0, none⟩) := ((hF 6 (by decide)).2.2.2.2 (by decide)).is rfl
 have e7 : vs 7 = .pointer (some ⟨b.kb, 1, none⟩) := ((hF 7 (by decide)).2.2.2.2 (by decide)).is rfl
 have e8 : vs 8 = .pointer (some ⟨b.nb, 0, none⟩) := ((hF 8 (by decide)).2.2.2.2 (by decide)).is rfl
 have e10 : vs 10 = .pointer (some ⟨b.kb, 0, none⟩) := ((hF 10 (by decide)).2.2.2.2 (by decide)).is rfl
 have e11 : vs 11 = .pointer (some ⟨b.kb, 0, none⟩) := ((hF 11 (by decide)).2.2.2.2 (by decide)).is rfl
 have e12 : vs 12 = .pointer (some ⟨b.kb, 2, none⟩) := ((hF 12 (by decide)).2.2.2.2 (by decide)).is rfl
 have e13 : vs 13 = .pointer (some ⟨b.fb, 0, none⟩) := ((hF 13 (by decide)).2.2.2.2 (by decide)).is rfl
 obtain ⟨x1, x2, x3, e15, h1, h2, h3⟩ := (hF 15 (by decide)).2.2.2.1 rfl
 clear hF
 simp only [List.drop_succ_cons, List.drop_zero, puts, List.range, List.range.loop, List.foldr, if_true, List.getD_cons_zero, List.getD_cons_succ, e0, e1, e2, e3, e5, e6, e7, e8, e10, e11, e12, e13, e15, Act.put, List.setIfInBounds_toArray, List.set_cons_zero, List.set_cons_succ]
 clear e0 e1 e2 e3 e5 e6 e7 e8 e10 e11 e12 e13 e15
 obtain ⟨L1, o1, s1⟩ := h1
 obtain ⟨L2, o2, s2⟩ := h2
 obtain ⟨L3, o3, s3⟩ := h3
 obtain ⟨a1, n1, k1, rfl⟩ := own_sl o1
 obtain ⟨a2, n2, k2, rfl⟩ := own_sl o2
 obtain ⟨a3, n3, k3, rfl⟩ := own_sl o3
 have hr := below_keeps hb HR1.out (gsl HR1.out)
 have HO := hid (And.intro o1 (And.intro o2 o3))
 have HSS := hid (And.intro s1 (And.intro s2 s3))
 have HB := hid hb
 clear o1 o2 o3 s1 s2 s3 hb
 go_wp2_with (first | (refine wpList_stB rfl 51 (.tmp 2) (.tmp 18) rfl w.heap.size #[.slice a1 n1 k1, .slice a2 n2 k2, .slice a3 n3 k3] rfl rfl _ hr (by kernel_rfl) rfl (by simp [Value.oneCell']) ?_; intro w2 hbt hr2) | fail)
 have u0 : w2.cell? ⟨w.heap.size, 0, none⟩ = some (.slice a1 n1 k1) := crw hr2 rfl
 have u1 : w2.cell? ⟨w.heap.size, 1, none⟩ = some (.slice a2 n2 k2) := crw hr2 rfl
 have u2 : w2.cell? ⟨w.heap.size, 2, none⟩ = some (.slice a3 n3 k3) := crw hr2 rfl
 have hD : Dmp w w2 s (.agg #[.slice a1 n1 k1, .slice a2 n2 k2, .slice a3 n3 k3]) := by
  obtain ⟨o1, o2, o3⟩ := HO.out
  obtain ⟨s1, s2, s3⟩ := HSS.out
  have hs := HS1.out
  have hy := HB.out.size
  have kc : Chg (fun c => c = w.heap.size) y w2 := Chg.of_but hbt rfl
  refine ⟨_, _, _, rfl, ⟨L1, row_base (row_chg o1 kc fun c hc e => ?_) (by omega), s1⟩, ⟨L2, row_base (row_chg o2 kc fun c hc e => ?_) (by omega), s2⟩, ⟨L3, row_base (row_chg o3 kc fun c hc e => ?_) (by omega), s3⟩, ?_⟩
  ·have := (row_own o1 hc).1; omega
  ·have := (row_own o2 hc).1; omega
  ·have := (row_own o3 hc).1; omega
  ·have hby := HB1.out.trans (HB.out.mono HB1.out.size)
   exact ⟨hbt.os.trans hby.os, hbt.tape.trans hby.tape, hbt.output.trans hby.output, Nat.le_trans hby.size hbt.size, fun k hk => (hbt.block k (by omega) (by omega)).trans (hby.block k hk)⟩
 exact bodyPost_ret (v := .agg #[.slice a1 n1 k1, .slice a2 n2 k2, .slice a3 n3 k3]) (by simp [results, Tryz.results8, go_sem, u0, u1, u2]) rfl ⟨_, rfl, hD⟩
end Go.Proofs.YtpdnnikkaojnkaaGreat.Rt
