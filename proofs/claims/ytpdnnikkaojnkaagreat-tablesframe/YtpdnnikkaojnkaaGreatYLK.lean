import Derived.Test.YtpdnnikkaojnkaaGreatYLJ
namespace Go.Proofs.YtpdnnikkaojnkaaGreat.Rt
open Go.Proofs.YtpdnnikkaojnkaaGreat Go.ChangeShapes Go.WideShapes Go.ChangeAt Go.RowKit Go.Maps Tri N
set_option maxHeartbeats 8000000
set_option maxRecDepth 100000
theorem own_R {w : World} {B : Nat} {v : Value} {L : List Vt} : Own kR w B v L ↔ OwnR w B v L := Iff.rfl
theorem own_N {w : World} {B : Nat} {v : Value} {L : List Nb} : Own kN w B v L ↔ OwnEN w B v L := Iff.rfl
theorem own_F {w : World} {B : Nat} {v : Value} {L : List Fd} : Own kF w B v L ↔ OwnEF w B v L := Iff.rfl
def fpK (b : Bks) (c : Nat) : Prop := c ∈ [b.kb, b.rb, b.tb, b.nb, b.bm, b.fb, b.fm]
theorem KAt.grow {w w' : World} {X Y Z : Nat -> Prop} {b : Bks} {s : Ks} (h : KAt w X b s) (hc : Chg Z w w') (hZ : ∀ c, Z c -> c < w.heap.size -> X c /\ ¬ fpK b c) (hY : ∀ c, Y c -> X c \/ w.heap.size <= c) (hXY : ∀ c, X c -> Y c) (hl : ∀ c, Y c -> c < w'.heap.size) : KAt w' Y b s := by
 have hk : ∀ c, fpK b c -> c < w.heap.size -> w'.heap[c]? = w.heap[c]? := fun c hm hl => hc.block c hl fun hz => (hZ c hz hl).2 hm
 unfold fpK at hk hZ
 refine ⟨(hk _ (by simp) (h.lt _ h.mem.1)).trans h.row, h.rt.chg hc (fun c hz hl => ⟨(hZ c hz hl).1, fun e => (hZ c hz hl).2 (by simp [e]), fun e => (hZ c hz hl).2 (by simp [e])⟩) hY hXY hl, h.nt.kept (hk _ (by simp) h.nt.lt.1) (hk _ (by simp) h.nt.lt.2), h.ft.kept (hk _ (by simp) h.ft.lt.1) (hk _ (by simp) h.ft.lt.2), h.ok, ⟨hXY _ h.mem.1, hXY _ h.mem.2.1, hXY _ h.mem.2.2.1, hXY _ h.mem.2.2.2.1, hXY _ h.mem.2.2.2.2⟩, h.nd⟩
theorem KAt.fpx {w : World} {X : Nat -> Prop} {b : Bks} {s : Ks} (h : KAt w X b s) {c : Nat} (hc : fpK b c) : X c := by
 unfold fpK at hc
 simp only [List.mem_cons, List.not_mem_nil, or_false] at hc
 obtain ⟨t, ⟨t1, _⟩, _⟩ := h.rt.tree
 rcases hc with rfl | rfl | rfl | rfl | rfl | rfl | rfl
 ·exact h.mem.1
 ·exact h.rt.xr
 ·exact t1
 ·exact h.mem.2.1
 ·exact h.mem.2.2.1
 ·exact h.mem.2.2.2.1
 ·exact h.mem.2.2.2.2
theorem KAt.no {w : World} {X : Nat -> Prop} {b : Bks} {s : Ks} (h : KAt w X b s) {c : Nat} (hc : fpK b c) {cs : Array Value} {T : TypeId} (hT : T = 142 \/ T = 38 \/ T = 42 \/ T = 44) : w.heap[c]? ≠ some (.cells cs T (0, 0)) := fun e => by
 unfold fpK at hc
 simp only [List.mem_cons, List.not_mem_nil, or_false] at hc
 obtain ⟨t, ⟨_, _, ⟨m, t3, _⟩, _⟩, _⟩ := h.rt.tree
 rcases hc with rfl | rfl | rfl | rfl | rfl | rfl | rfl
 ·rcases hT with rfl | rfl | rfl | rfl <;> exact ty_ne e h.row (by decide)
 ·rcases hT with rfl | rfl | rfl | rfl <;> exact ty_ne e h.rt.row (by decide)
 ·rcases hT with rfl | rfl | rfl | rfl <;> exact ty_ne e t3 (by decide)
 ·rcases hT with rfl | rfl | rfl | rfl <;> exact ty_ne e h.nt.row (by decide)
 ·exact map_no h.nt.map e
 ·rcases hT with rfl | rfl | rfl | rfl <;> exact ty_ne e h.ft.row (by decide)
 ·exact map_no h.ft.map e
structure Pr (w : World) (X : Nat -> Prop) (b : Bks) (m : Nat) (v : Vs) (s : Ks) : Prop where
 k : KAt w X b s
 r : Rf w m v s
 x : ∀ c, fpR m v c -> X c
def fpP (b : Bks) (m : Nat) (v : Vs) (c : Nat) : Prop := fpK b c \/ fpR m v c
theorem Pr.apart {w : World} {X : Nat -> Prop} {b : Bks} {m : Nat} {v : Vs} {s : Ks} (h : Pr w X b m v s) {c : Nat} (hc : fpR m v c) : ¬ fpK b c := fun hk => by
 obtain ⟨cs, T, e, hT⟩ := h.r.kinds hc
 exact h.k.no hk hT e
theorem Pr.fpx {w : World} {X : Nat -> Prop} {b : Bks} {m : Nat} {v : Vs} {s : Ks} (h : Pr w X b m v s) {c : Nat} (hc : fpP b m v c) : X c := hc.elim h.k.fpx (h.x c)
theorem Pr.below {w w' : World} {X : Nat -> Prop} {b : Bks} {m : Nat} {v : Vs} {s : Ks} (h : Pr w X b m v s) (hb : Below w.heap.size w w') : Pr w' X b m v s := ⟨h.k.below hb, h.r.below hb, h.x⟩
structure PTurn (w w' : World) (X : Nat -> Prop) (b : Bks) (m : Nat) (v : Vs) (s' : Ks) (X' : Nat -> Prop) (b' : Bks) (v' : Vs) : Prop where
 pr : Pr w' X' b' m v' s'
 kb : b'.kb = b.kb
 keeps : Me.Keeps (fpP b m v) w w'
 new : ∀ c, fpP b' m v' c -> fpP b m v c \/ w.heap.size <= c
 xle : ∀ c, X c -> X' c
 xnew : ∀ c, X' c -> X c \/ w.heap.size <= c
def Pd (w w' : World) (X : Nat -> Prop) (b : Bks) (m : Nat) (v : Vs) (s' : Ks) : Prop := ∃ X' b' v', PTurn w w' X b m v s' X' b' v'
theorem Pd.same {w w' : World} {X : Nat -> Prop} {b : Bks} {m : Nat} {v : Vs} {s : Ks} (h : Pr w X b m v s) (hb : Below w.heap.size w w') : Pd w w' X b m v s :=
 ⟨X, b, v, h.below hb, rfl, Me.Keeps.of hb, fun _ h => .inl h, fun _ h => h, fun _ h => .inl h⟩
theorem Pd.behind {w w1 w2 : World} {X : Nat -> Prop} {b : Bks} {m : Nat} {v : Vs} {s : Ks} (hb : Below w.heap.size w w1) (h : Pd w1 w2 X b m v s) : Pd w w2 X b m v s := by
 obtain ⟨X', b', v', ⟨h1, h2, h3, h4, h5, h6⟩⟩ := h
 exact ⟨X', b', v', h1, h2, (Me.Keeps.of hb).trans h3, fun c hc => (h4 c hc).imp id fun h => Nat.le_trans hb.size h, h5, fun c hc => (h6 c hc).imp id fun h => Nat.le_trans hb.size h⟩
theorem Pd.both {w w1 w2 : World} {X X1 : Nat -> Prop} {b b1 : Bks} {m : Nat} {v v' : Vs} {s s1 : Ks} (h : Pr w X b m v s) (hk : KAt w1 X1 b1 s1) (hkb : b1.kb = b.kb) (hc : Chg (fpK b) w w1) (hn : ∀ c, fpK b1 c -> fpK b c \/ w.heap.size <= c) (hx : ∀ c, X c -> X1 c) (hxn : ∀ c, X1 c -> X c \/ w.heap.size <= c)
  (hr : Rf w1 m v s -> RTurn w1 w2 m v s1 v') : Pd w w2 X b m v s1 := by
 have hr1 : Rf w1 m v s := h.r.keeps hc.keeps fun c e => h.apart e
 have ht := hr hr1
 have hz := hc.size
 have hz2 := ht.keeps.size
 have hna : ∀ c, fpR m v c -> ¬ fpK b1 c := fun c e e' => by
  obtain ⟨cs, T, e2, hT⟩ := hr1.kinds e
  exact hk.no e' hT e2
 have hk2 := hk.grow (Y := fun c => X1 c \/ (w1.heap.size <= c /\ c < w2.heap.size)) (keeps_chg ht.keeps) (fun c e _ => ⟨hx c (h.x c e), hna c e⟩) (fun c e => e.imp id fun e => e.1) (fun c e => .inl e) (fun c e => e.elim (fun e => Nat.lt_of_lt_of_le (hk.lt c e) hz2) fun e => e.2)
 refine ⟨_, b1, v', ⟨hk2, ht.ref, fun c e => ?_⟩, hkb, ?_, fun c e => ?_, fun c e => .inl (hx c e), fun c e => ?_⟩
 ·rcases ht.new c e with e' | e'
  ·exact .inl (hx c (h.x c e'))
  ·exact .inr ⟨e', ht.ref.lt e⟩
 ·refine ⟨ht.keeps.os.trans hc.os, ht.keeps.tape.trans hc.tape, ht.keeps.output.trans hc.output, Nat.le_trans hz hz2, fun c hl hn' => ?_⟩
  exact (ht.keeps.block c (Nat.lt_of_lt_of_le hl hz) fun e => hn' (.inr e)).trans (hc.block c hl fun e => hn' (.inl e))
 ·rcases e with e | e
  ·exact (hn c e).imp .inl id
  ·exact (ht.new c e).imp .inr fun h => Nat.le_trans hz h
 ·rcases e with e | e
  ·exact hxn c e
  ·exact .inr (Nat.le_trans hz e.1)
def Bth (w w' : World) (r n f : Int) (e : Ending) : Prop :=
 (Cap r n f -> ∃ X b m v, e = .returned (.tuple #[.pointer (some ⟨b.kb, 0, none⟩), .pointer (some ⟨m, 0, none⟩), .bool true]) /\ Pr w' X b m v ⟨[], [], [], r.toNat, n.toNat, f.toNat⟩ /\ (∀ c, X c -> w.heap.size <= c)) /\ (¬ Cap r n f -> e = .returned (.tuple #[.pointer none, .pointer none, .bool true])) /\ Below w.heap.size w w'
theorem both_any (w : World) (r n f : Int) : Calls Tryz.prog 18 #[.agg #[.int .i64 r, .int .i64 n, .int .i64 f]] w fun e w' => Bth w w' r n f e := by
 obtain ⟨w1, HW1⟩ : ∃ w1, Hid (w1 = w.alloc (.cells #[.int .i64 r, .int .i64 n, .int .i64 f] 23)) := ⟨_, rfl⟩
 have hb1 : Below w.heap.size w w1 := by rw [HW1.out]; exact bR.alloc nL _
 have r1 : w1.heap[w.heap.size]? = some (.cells #[.int .i64 r, .int .i64 n, .int .i64 f] 23) := by rw [HW1.out]; exact heap_alloc_new w _
 have c0 : w1.cell? ⟨w.heap.size, 0, none⟩ = some (.int .i64 r) := crw r1 rfl
 have c1 : w1.cell? ⟨w.heap.size, 1, none⟩ = some (.int .i64 n) := crw r1 rfl
 have c2 : w1.cell? ⟨w.heap.size, 2, none⟩ = some (.int .i64 f) := crw r1 rfl
 have HB1 := hid hb1
 have HR1 := hid r1
 have HC := hid (newK_any w1 r n f)
 clear hb1 r1
 go_enter Tryz.func18, Tryz.ntmps18
 go_upto_region 1 with fail
 rw [<- HW1.out]
 clear HW1
 go_wp2_with fail
 refine HC.out.mono ?_
 intro e w2 hp
 by_cases hcap : Cap r n f
 ·obtain ⟨b, rfl, hk, hb2⟩ := hp.1 hcap
  have r2 := below_keeps hb2 HR1.out (gsl HR1.out)
  have d0 : w2.cell? ⟨w.heap.size, 0, none⟩ = some (.int .i64 r) := crw r2 rfl
  have d1 : w2.cell? ⟨w.heap.size, 1, none⟩ = some (.int .i64 n) := crw r2 rfl
  have d2 : w2.cell? ⟨w.heap.size, 2, none⟩ = some (.int .i64 f) := crw r2 rfl
  have HK := hid hk
  have HB2 : Hid (Below w.heap.size w w2) := HB1.out.trans (hb2.mono HB1.out.size)
  have HZ : Hid (w1.heap.size <= w2.heap.size) := hb2.size
  have HCC := hid hcap
  have HN := hid (newRf_any w2 r n f)
  clear hp hk hb2 r2 c0 c1 c2 hcap HC
  go_wp2_with fail
  refine HN.out.mono ?_
  intro e w3 hp
  obtain ⟨rfl, hr, hb3⟩ := hp.1 HCC.out
  have HFIN : Hid (Bth w w3 r n f (.returned (.tuple #[.pointer (some ⟨b.kb, 0, none⟩), .pointer (some ⟨w2.heap.size, 0, none⟩), .bool true]))) := by
   have hz1 := HB1.out.size
   have hz3 := hb3.size
   have hl := hr.lt (.inl rfl)
   have hk3 := HK.out.grow (Y := fun c => w1.heap.size <= c /\ c < w3.heap.size) (Z := fun _ => False) (Chg.of_below hb3) (fun c e => e.elim) (fun c e => by by_cases h : c < w2.heap.size; exact .inl ⟨e.1, h⟩; exact .inr (by omega)) (fun c e => ⟨e.1, by have := e.2; omega⟩) (fun c e => e.2)
   refine ⟨fun _ => ⟨_, b, _, _, rfl, ⟨hk3, hr, fun c e => ?_⟩, fun c e => by have := e.1; omega⟩, fun h => absurd HCC.out h, HB2.out.trans (hb3.mono HB2.out.size)⟩
   rcases e with rfl | e | e | e
   ·exact ⟨HZ.out, hl⟩
   ·cases e
   ·cases e
   ·cases e
  clear hp hr hb3 d0 d1 d2 HN
  go_wp2_with fail
  go_ret3
  exact HFIN.out
 ·obtain ⟨rfl, ew⟩ := hp.2 hcap
  obtain rfl := ew.symm
  have HN := hid (newRf_any w1 r n f)
  have HCC := hid hcap
  clear hp ew hcap HC
  go_wp2_with fail
  refine HN.out.mono ?_
  intro e w3 hp
  obtain ⟨rfl, ew⟩ := hp.2 HCC.out
  obtain rfl := ew.symm
  have HFIN : Hid (Bth w w1 r n f (.returned (.tuple #[.pointer none, .pointer none, .bool true]))) := ⟨fun h => absurd h HCC.out, fun _ => rfl, HB1.out⟩
  clear hp ew HN c0 c1 c2
  go_wp2_with fail
  go_ret3
  exact HFIN.out
def plS (s : Ks) (k : Int) (L : List Opv) : Ks := if k = 1 then doS s L else if k = 4 then { s with R := [], N := [], F := [] } else s
theorem eqHop (s : Ks) (r : Option Vt) : ∃ e b m0 m1 m2 m3 m4 m5 vi d x n, (hopR s r).1 = #[.bool e, .int .u32 (x : Int), .int .i64 n, .int .u32 (vi : Int), .int .u8 m0, .int .u8 m1, .int .u8 m2, .int .u8 m3, .int .u8 m4, .int .u8 m5, .int .u32 (d : Int)] /\ (hopR s r).2 = b := by
 unfold hopR
 cases r with
 | none => exact ⟨_, _, _, _, _, _, _, _, _, _, _, _, rfl, rfl⟩
 | some v =>
  simp only
  split
  ·exact ⟨_, _, _, _, _, _, _, _, _, _, _, _, rfl, rfl⟩
  ·split
   ·exact ⟨_, _, _, _, _, _, _, _, _, _, _, _, rfl, rfl⟩
   ·split
    ·exact ⟨_, _, _, _, _, _, _, _, _, _, _, _, rfl, rfl⟩
    ·exact ⟨_, _, _, _, _, _, _, _, _, _, _, _, rfl, rfl⟩
theorem eq6i (m0 m1 m2 m3 m4 m5 : Int) (u : World) : (Op.equalIn 9999 40 (.agg #[.int .u8 m0, .int .u8 m1, .int .u8 m2, .int .u8 m3, .int .u8 m4, .int .u8 m5]) (.agg #[.int .u8 m0, .int .u8 m1, .int .u8 m2, .int .u8 m3, .int .u8 m4, .int .u8 m5])).run Tryz.prog u = .ok true u := by
 have h5 : Tryz.prog.underlying 5 = some (.int .u8) := by kernel_rfl
 have hsz : (sizeOf 5).run Tryz.prog u = .ok 1 u := by kernel_rfl
 have hi : ∀ (x : Int) (w : World), (Op.equalIn 9998 5 (.int .u8 x) (.int .u8 x)).run Tryz.prog w = .ok true w := fun x w => by
  have := run_equalIn_int (P := Tryz.prog) w 9997 5 .u8 .u8 x x h5
  simpa using this
 rw [show (9999 : Nat) = 9998 + 1 from rfl, Op.equalIn]
 simp [run_underlying uM, hsz, part, hi, Std.Legacy.Range.forIn_eq_forIn_range', List.range', Result.andThen]
end Go.Proofs.YtpdnnikkaojnkaaGreat.Rt
