import Derived.Test.YtpdnnikkaojnkaaGreatYQC
import Derived.Test.YtpdnnikkaojnkaaGreatYLZB
import Derived.Test.YtpdnnikkaojnkaaGreatYLS
import Derived.Test.YtpdnnikkaojnkaaGreatYVROG
namespace Go.Proofs.YtpdnnikkaojnkaaGreat.Rt
open Go.Proofs.YtpdnnikkaojnkaaGreat Go.ChangeShapes Go.WideShapes Go.ChangeAt Go.RowKit Go.Maps Tri N
set_option maxHeartbeats 2000000
set_option maxRecDepth 100000
theorem one_caps (s : Ks) (o : Opv) : (oneS s o).cr = s.cr ∧ (oneS s o).cn = s.cn ∧ (oneS s o).cf = s.cf := by
  unfold oneS
  repeat' split
  all_goals exact ⟨rfl, rfl, rfl⟩
theorem own_kept {α : Type} {K : Rk α} {w w' : World} {B : Nat} {v : Value} {L : List α} (h : Own K w B v L) (hk : ∀ c, c < w.heap.size → B ≤ c → w'.heap[c]? = w.heap[c]?) : Own K w' B v L := by
  refine ⟨h.1, ?_⟩
  rcases h.2 with h0 | ⟨g, cap, cur, rfl, hbb, hg, rest⟩
  · exact .inl h0
  · exact .inr ⟨g, cap, cur, rfl, hbb, (hk g (Array.getElem?_eq_some_iff.1 hg).1 hbb).trans hg, rest⟩
theorem own_sees {w : World} {B : Nat} {a : Option Addr} {n c : Nat} {L : List Opv} (h : Own kO w B (.slice a n c) L) : SeesOp (fun g => B ≤ g ∧ g < w.heap.size) w a n L := by
  obtain ⟨a', n', c', e, hn, -, -⟩ := h.shape
  simp only [Value.slice.injEq] at e
  obtain ⟨rfl, rfl, rfl⟩ := e
  refine ⟨hn.out, ?_⟩
  cases L with
  | nil => exact .inl rfl
  | cons o L =>
    obtain ⟨g, rfl, hg, -⟩ := h.at (j := 0) rfl
    refine .inr ⟨g, 0, rfl, ⟨?_, hg⟩, hg, fun j x hx i v hv => ?_⟩
    · exact (h.lt rfl).1
    · obtain ⟨g', e, -, hu⟩ := h.at hx
      simp only [Option.some.injEq, Addr.mk.injEq, and_true] at e
      subst e
      have hi : i < 19 := (List.getElem?_eq_some_iff.1 hv).1
      rw [Nat.zero_add, ((hu w rfl).1 i hi).1, ← Array.getElem?_toList]
      exact hv
def Gd (A : List Vt) (B : List Nb) (C : List Fd) (v : Value) (w : World) : Prop := ∃ x y z, v = .agg #[x, y, z] ∧ Own kR w 0 x A ∧ Own kN w 0 y B ∧ Own kF w 0 z C
theorem Gd.below {A : List Vt} {B : List Nb} {C : List Fd} {v : Value} {w w' : World} (h : Gd A B C v w) (hb : Below w.heap.size w w') : Gd A B C v w' := by
  obtain ⟨x, y, z, e, h1, h2, h3⟩ := h
  exact ⟨x, y, z, e, h1.below hb, h2.below hb, h3.below hb⟩
structure Ls3 (s : Ks) (A : List Vt) (B : List Nb) (C : List Fd) : Prop where
  r : SrtK Tri.Vt.num A s.R
  n : SrtK (fun e : Nb => e.ip) B s.N
  f : SrtK (fun e : Fd => e.mac.num) C s.F
theorem dmp_gd {w w' : World} {s : Ks} {v : Value} {A : List Vt} {B : List Nb} {C : List Fd} (h : Dmp w w' s v) (hl : Ls3 s A B C) : Gd A B C v w' ∧ Below w.heap.size w w' := by
  obtain ⟨x, y, z, rfl, ⟨A1, o1, s1⟩, ⟨A2, o2, s2⟩, ⟨A3, o3, s3⟩, hb⟩ := h
  obtain rfl : A1 = A := srtK_eq s1 hl.r
  obtain rfl : A2 = B := srtK_eq s2 hl.n
  obtain rfl : A3 = C := srtK_eq s3 hl.f
  exact ⟨⟨x, y, z, rfl, (own_R.2 o1).low (Nat.zero_le _), (own_N.2 o2).low (Nat.zero_le _), (own_F.2 o3).low (Nat.zero_le _)⟩, hb⟩
theorem gd_dumps {A : List Vt} {B : List Nb} {C : List Fd} {v1 v2 : Value} {w : World} (h1 : Gd A B C v1 w) (h2 : Gd A B C v2 w) (hA : A.length ≤ 256) (hB : B.length ≤ 256) (hC : C.length ≤ 256) : Calls Tryz.prog 10 #[v1, v2] w fun e w' => e = .returned (.bool true) ∧ Below w.heap.size w w' := by
  obtain ⟨x1, y1, z1, rfl, a1, a2, a3⟩ := h1
  obtain ⟨x2, y2, z2, rfl, b1, b2, b3⟩ := h2
  exact dumps_any w x1 y1 z1 x2 y2 z2 A B C a1 b1 a2 b2 a3 b3 hA hB hC
theorem Ls3.rev {s : Ks} {A : List Vt} {B : List Nb} {C : List Fd} (h : Ls3 s A B C) (cr cn cf : Nat) : Ls3 ⟨A.reverse, B.reverse, C.reverse, cr, cn, cf⟩ A B C :=
  ⟨⟨h.r.1, fun e => by simp⟩, ⟨h.n.1, fun e => by simp⟩, ⟨h.f.1, fun e => by simp⟩⟩
theorem ls3_nil (cr cn cf : Nat) : Ls3 ⟨[], [], [], cr, cn, cf⟩ [] [] [] := ⟨⟨List.Pairwise.nil, fun _ => Iff.rfl⟩, ⟨List.Pairwise.nil, fun _ => Iff.rfl⟩, ⟨List.Pairwise.nil, fun _ => Iff.rfl⟩⟩
theorem Ls3.ok {s : Ks} {A : List Vt} {B : List Nb} {C : List Fd} (h : Ls3 s A B C) (hok : s.Ok) (hlo : LocOk s) : (⟨A, B, C, s.cr, s.cn, s.cf⟩ : Ks).Ok ∧ LocOk ⟨A, B, C, s.cr, s.cn, s.cf⟩ :=
  ⟨(dump_ks hok h.r h.n h.f).1, fun v hv => hlo v ((h.r.2 v).1 hv)⟩
theorem same_hop {s s' : Ks} (hs : s.Ok) (hR : ∀ e, e ∈ s'.R ↔ e ∈ s.R) (hN : ∀ e, e ∈ s'.N ↔ e ∈ s.N) (hF : ∀ e, e ∈ s'.F ↔ e ∈ s.F) {a : Nat} {r r' : Option Vt} (h : LR s.R a r) (h' : LR s'.R a r') : hopR s' r' = hopR s r := by
  have hx : LR s.R a r' := by
    cases r' with
    | none => exact fun u hu => h' u ((hR u).2 hu)
    | some v => exact ⟨(hR v).1 h'.1, h'.2.1, fun u hu => h'.2.2 u ((hR u).2 hu)⟩
  obtain rfl : r' = r := LR.one hs.rn hs.rk hx h
  have e2 : ∀ k, lk Nb.ip s'.N k = lk Nb.ip s.N k := lk_same hs.nn hN
  have e3 : ∀ k, lk Fd.mac s'.F k = lk Fd.mac s.F k := lk_same hs.fn hF
  unfold hopR
  simp only [e2, e3]
theorem K2.resolve {w0 : World} {N : Nat} {w : World} {k1 k2 : Nat} {s1 s2 : Ks} (h : K2 w0 N w k1 k2 s1 s2) (a : Nat) : Calls Tryz.prog 11 #[.pointer (some ⟨k1, 0, none⟩), .int .u32 (a : Int)] w fun e w' => ResP w w' s1 a e := by
  obtain ⟨⟨b1, b2, h1, h2, rfl, e2, hd⟩, hb, hi⟩ := h
  exact resolve_any w a h1
theorem K2.doB {w0 : World} {N : Nat} {w : World} {k1 k2 : Nat} {s1 s2 : Ks} (h : K2 w0 N w k1 k2 s1 s2) {K : Nat → Prop} {a : Option Addr} {n : Nat} (c : Nat) {L : List Opv} (hs : SeesOp K w a n L) (hK : ∀ c, K c → c < w0.heap.size ∨ N ≤ c) (hL : ∀ o ∈ L, o.Ok) (hn : n ≤ 9223372036854775807) :
    Calls Tryz.prog 7 #[.pointer (some ⟨k1, 0, none⟩), .slice a n c] w fun e w' => e = .returned (.tuple #[.int .i64 (doN s1 L : Int), .int .i64 (doE s1 L)]) ∧ K2 w0 N w' k1 k2 (doS s1 L) s2 ∧ (∀ c, c < w.heap.size → N ≤ c → w'.heap[c]? = w.heap[c]?) ∧ w.heap.size ≤ w'.heap.size := by
  obtain ⟨⟨b1, b2, h1, h2, rfl, e2, hd⟩, hb, hi⟩ := h
  have hne : ∀ x y, K x → fpK b1 y → x ≠ y := fun x y hx hy e => by
    have := h1.fpx hy
    have := hK x hx
    omega
  have ht : ∀ x, (x = b1.tb ∨ x = b1.bm ∨ x = b1.fm) → fpK b1 x := fun x e => by unfold fpK; rcases e with e | e | e <;> simp [e]
  refine (do_any w c h1 hs (fun c hc => ⟨hne c _ hc (ht _ (.inl rfl)), hne c _ hc (ht _ (.inr (.inl rfl))), hne c _ hc (ht _ (.inr (.inr rfl)))⟩) hL hn).mono ?_
  rintro e w' ⟨he, hk, hc⟩
  exact ⟨he, ⟨⟨b1, b2, hk, h2.chg hc (fun c hz _ => ⟨h1.fpx (ht c hz), hd c (ht c hz)⟩), rfl, e2, hd⟩, hb.trans (hc.keeps.below hb.size fun c hz => (h1.fpx (ht c hz)).1), Nat.le_trans hi hc.size⟩, fun c hl hn => hc.block c hl fun hz => (by have := h1.fpx (ht c hz); omega), hc.size⟩
structure Rb (w1 : World) (NN : Nat) (w : World) (k1 k2 : Nat) (s1 s2 : Ks) (tb : Nat) (x y z : Value) (A : List Vt) (B : List Nb) (C : List Fd) (va : Value) (L : List Opv) : Prop where
  k : K2 w1 NN w k1 k2 s1 s2
  row : w.heap[tb]? = some (.cells #[x, y, z] 51)
  lo : NN ≤ tb
  x : Own kR w NN x A
  y : Own kN w NN y B
  z : Own kF w NN z C
  all : Own kO w NN va L
theorem Rb.below {w1 : World} {NN : Nat} {w w' : World} {k1 k2 : Nat} {s1 s2 : Ks} {tb : Nat} {x y z : Value} {A : List Vt} {B : List Nb} {C : List Fd} {va : Value} {L : List Opv} (h : Rb w1 NN w k1 k2 s1 s2 tb x y z A B C va L) (hb : Below w.heap.size w w') : Rb w1 NN w' k1 k2 s1 s2 tb x y z A B C va L :=
  ⟨h.k.below hb, below_keeps hb h.row (Array.getElem?_eq_some_iff.1 h.row).1, h.lo, h.x.below hb, h.y.below hb, h.z.below hb, h.all.below hb⟩
theorem Rb.gd {w1 : World} {NN : Nat} {w : World} {k1 k2 : Nat} {s1 s2 : Ks} {tb : Nat} {x y z : Value} {A : List Vt} {B : List Nb} {C : List Fd} {va : Value} {L : List Opv} (h : Rb w1 NN w k1 k2 s1 s2 tb x y z A B C va L) : Gd A B C (.agg #[x, y, z]) w := ⟨x, y, z, rfl, h.x.low (Nat.zero_le _), h.y.low (Nat.zero_le _), h.z.low (Nat.zero_le _)⟩
theorem Rb.do2 {w1 : World} {NN : Nat} {w : World} {k1 k2 : Nat} {s1 s2 : Ks} {tb : Nat} {x y z : Value} {A : List Vt} {B : List Nb} {C : List Fd} {va : Value} {L : List Opv} (h : Rb w1 NN w k1 k2 s1 s2 tb x y z A B C va L) {a : Option Addr} {n c : Nat} {M : List Opv} (hv : Own kO w NN (.slice a n c) M) (hL : ∀ o ∈ M, o.Ok) (hM : M.length ≤ 768) :
    Calls Tryz.prog 7 #[.pointer (some ⟨k2, 0, none⟩), .slice a n c] w fun e w' => e = .returned (.tuple #[.int .i64 (doN s2 M : Int), .int .i64 (doE s2 M)]) ∧ Rb w1 NN w' k1 k2 s1 (doS s2 M) tb x y z A B C va L := by
  have hs := own_sees hv
  have hn := hs.1
  refine (h.k.swap.doB c hs (fun c hc => .inr hc.1) hL (by omega)).mono ?_
  rintro e w' ⟨he, hk, hx, -⟩
  exact ⟨he, hk.swap, (hx tb (Array.getElem?_eq_some_iff.1 h.row).1 h.lo).trans h.row, h.lo, own_kept h.x hx, own_kept h.y hx, own_kept h.z hx, own_kept h.all hx⟩
structure Re (w1 : World) (w : World) (k1 : Nat) (s : Ks) (tb : Nat) (x y z : Value) (A : List Vt) (B : List Nb) (C : List Fd) : Prop where
  k : ∃ X b, KAt w X b s ∧ b.kb = k1
  row : w.heap[tb]? = some (.cells #[x, y, z] 51)
  gd : Gd A B C (.agg #[x, y, z]) w
  bel : Below w1.heap.size w1 w
theorem Re.below {w1 w w' : World} {k1 : Nat} {s : Ks} {tb : Nat} {x y z : Value} {A : List Vt} {B : List Nb} {C : List Fd} (h : Re w1 w k1 s tb x y z A B C) (hb : Below w.heap.size w w') : Re w1 w' k1 s tb x y z A B C := by
  obtain ⟨X, b, h1, h2⟩ := h.k
  exact ⟨⟨X, b, h1.below hb, h2⟩, below_keeps hb h.row (Array.getElem?_eq_some_iff.1 h.row).1, h.gd.below hb, h.bel.trans (hb.mono h.bel.size)⟩
theorem Re.dump {w1 w : World} {k1 : Nat} {s : Ks} {tb : Nat} {x y z : Value} {A : List Vt} {B : List Nb} {C : List Fd} (h : Re w1 w k1 s tb x y z A B C) : Calls Tryz.prog 8 #[.pointer (some ⟨k1, 0, none⟩)] w fun e w' => ∃ v, e = .returned v ∧ Dmp w w' s v := by
  obtain ⟨X, b, h1, rfl⟩ := h.k
  exact dump_any w h1
theorem Rb.flush {w1 : World} {NN : Nat} {w : World} {k1 k2 : Nat} {s1 s2 : Ks} {tb : Nat} {x y z : Value} {A : List Vt} {B : List Nb} {C : List Fd} {a : Option Addr} {n c : Nat} {L : List Opv} (h : Rb w1 NN w k1 k2 s1 s2 tb x y z A B C (.slice a n c) L) (hL : ∀ o ∈ L, o.Ok) (hM : L.length ≤ 768) :
    Calls Tryz.prog 13 #[.pointer (some ⟨k1, 0, none⟩)] w fun e w' => e = .returned (.tuple #[]) ∧ Calls Tryz.prog 7 #[.pointer (some ⟨k1, 0, none⟩), .slice a n c] w' fun e w'' => e = .returned (.tuple #[.int .i64 (doN ⟨[], [], [], s1.cr, s1.cn, s1.cf⟩ L : Int), .int .i64 (doE ⟨[], [], [], s1.cr, s1.cn, s1.cf⟩ L)]) ∧ Re w1 w'' k1 (doS ⟨[], [], [], s1.cr, s1.cn, s1.cf⟩ L) tb x y z A B C := by
  obtain ⟨⟨⟨b1, b2, h1, h2, rfl, e2, hd⟩, hb, hi⟩, hrow, hlo, hx, hy, hz, hall⟩ := h
  have hf : ∀ c, (c = b1.rb ∨ c = b1.bm ∨ c = b1.fm) → fpK b1 c := fun c e => by unfold fpK; rcases e with e | e | e <;> simp [e]
  refine (flush_any w h1).mono ?_
  rintro e w' ⟨he, hk, hc⟩
  have hs : w.heap.size ≤ w'.heap.size := hc.size
  have kp : ∀ c, c < w.heap.size → NN ≤ c → w'.heap[c]? = w.heap[c]? := fun c hl hn => hc.block c hl fun hz => by have := (h1.fpx (hf c hz)).2; omega
  have hb2 : Below w1.heap.size w1 w' := hb.trans (hc.keeps.below hb.size fun c hz => (h1.fpx (hf c hz)).1)
  have rlt := (Array.getElem?_eq_some_iff.1 hrow).1
  refine ⟨he, ?_⟩
  have hal := own_kept hall kp
  have hse0 : SeesOp (fun g => NN ≤ g ∧ g < w.heap.size) w' a n L := (own_sees hall).kept (fun g hg hl => kp g hl hg.1) hs
  have hn := hse0.1
  have ht : ∀ c, (c = w.heap.size ∨ c = b1.bm ∨ c = b1.fm) → c = w.heap.size ∨ fpK b1 c := fun c e => by
    rcases e with e | e | e
    · exact .inl e
    · exact .inr (hf c (.inr (.inl e)))
    · exact .inr (hf c (.inr (.inr e)))
  have hne : ∀ g c, (NN ≤ g ∧ g < w.heap.size) → (c = w.heap.size ∨ c = b1.bm ∨ c = b1.fm) → g ≠ c := fun g c hg hc' e => by
    rcases ht c hc' with h | h
    · omega
    · have := (h1.fpx h).2; omega
  refine (do_any w' c hk hse0 (fun g hg => ⟨hne g _ hg (.inl rfl), hne g _ hg (.inr (.inl rfl)), hne g _ hg (.inr (.inr rfl))⟩) hL (by omega)).mono ?_
  rintro e w'' ⟨he', hk', hc'⟩
  have kq : ∀ c, c < w.heap.size → NN ≤ c → w''.heap[c]? = w.heap[c]? := fun c hl hn => (hc'.block c (by omega) fun hz => hne c c ⟨hn, hl⟩ hz rfl).trans (kp c hl hn)
  refine ⟨he', ⟨_, _, hk', rfl⟩, (kq tb rlt hlo).trans hrow, ⟨x, y, z, rfl, (own_kept hx kq).low (Nat.zero_le _), (own_kept hy kq).low (Nat.zero_le _), (own_kept hz kq).low (Nat.zero_le _)⟩, hb2.trans (hc'.keeps.below hb2.size fun c hz => ?_)⟩
  rcases ht c hz with h | h
  · rw [h]; exact hb.size
  · exact (h1.fpx h).1
def FQ (l : List Value) (G : Value → World → Prop) (i : Nat) (v : Value) (w : World) : Prop := (i = 11 → G v w) ∧ (i ≠ 11 → ∀ x, l[i]? = some x → v = x)
theorem FQ.keeps {l : List Value} {G : Value → World → Prop} (hG : ∀ v w w', G v w → Below w.heap.size w w' → G v w') {i : Nat} {v : Value} {w w' : World} (h : FQ l G i v w) (hb : Below w.heap.size w w') : FQ l G i v w' := ⟨fun e => hG _ _ _ (h.1 e) hb, h.2⟩
theorem fq_at {l : List Value} {G : Value → World → Prop} {i : Nat} {x u v : Value} {w : World} (h : x = u ∧ FQ l G i u w) (hi : i ≠ 11) (hl : l[i]? = some v) : x = v := h.1.trans (h.2.2 hi v hl)
theorem fq_mk {l : List Value} {G : Value → World → Prop} {i : Nat} {v : Value} {w : World} (hi : i ≠ 11) (hl : l[i]? = some v) : FQ l G i v w := ⟨fun e => absurd e hi, fun _ _ hx => Option.some.inj (hl.symm.trans hx)⟩
section
variable {o : Oper} {a : Act} {w : World}
theorem exq_len (x : Operand) (p : Option Addr) (n c : Nat) (ho : o.op = .call { callee := .builtin .len, args := #[x], argTypes := #[24] }) (hx : a.eval x = .slice p n c) : (execOp a.eval o).run Tryz.prog w = .ok (.value (.int .i64 (n : Int))) w := by
  have hu : Tryz.prog.underlying 24 = some (.slice 46) := by kernel_rfl
  have hr : (Builtin.len_ #[24] o.type #[.slice p n c]).run Tryz.prog w = .ok (.int .i64 (n : Int)) w := by simp [Builtin.len_, run_underlying hu, goInt, Result.andThen]
  simp [execOp, ho, resolve, invoke, builtin, hx, hr, Result.andThen]
theorem exq_neq (x y : Operand) (i : Int) (ho : o.op = .binOp .neq 3 x y 3) (hx : a.eval x = .int .i64 i) (hy : a.eval y = .int .i64 i) : (execOp a.eval o).run Tryz.prog w = .ok (.value (.bool false)) w := by
  simp only [execOp, ho, hx, hy]
  simp [go_sem, eqGuard]
theorem exq_eql (x y : Operand) (i : Int) (ho : o.op = .binOp .eql 3 x y 3) (hx : a.eval x = .int .i64 i) (hy : a.eval y = .int .i64 i) : (execOp a.eval o).run Tryz.prog w = .ok (.value (.bool true)) w := by
  simp only [execOp, ho, hx, hy]
  simp [go_sem, eqGuard]
theorem exq_neq0 (x : Operand) (ho : o.op = .binOp .neq 27 x (.const (.int .i64 0)) 27) (hx : a.eval x = .int .i64 0) : (execOp a.eval o).run Tryz.prog w = .ok (.value (.bool false)) w := by
  simp only [execOp, ho, hx]
  simp [go_sem, eqGuard]
theorem exq_eql0 (x : Operand) (ho : o.op = .binOp .eql 27 x (.const (.int .i64 0)) 27) (hx : a.eval x = .int .i64 0) : (execOp a.eval o).run Tryz.prog w = .ok (.value (.bool true)) w := by
  simp only [execOp, ho, hx]
  simp [go_sem, eqGuard]
theorem exq_pickT (x y : Operand) (z : Value) (ho : o.op = .pick x y (.const (.bool false))) (hx : a.eval x = .bool true) (hy : a.eval y = z) : (execOp a.eval o).run Tryz.prog w = .ok (.value z) w := by
  simp only [execOp, ho, hx, hy]
  simp [go_sem]
theorem exq_pickF (x y : Operand) (z : Value) (ho : o.op = .pick x (.const (.bool true)) y) (hx : a.eval x = .bool false) (hy : a.eval y = z) : (execOp a.eval o).run Tryz.prog w = .ok (.value z) w := by
  simp only [execOp, ho, hx, hy]
  simp [go_sem]
theorem exq_not (x : Operand) (b : Bool) (ho : o.op = .unOp .not 4 x) (hx : a.eval x = .bool b) : (execOp a.eval o).run Tryz.prog w = .ok (.value (.bool (!b))) w := by
  simp only [execOp, ho, hx]
  simp [go_sem]
end
end Go.Proofs.YtpdnnikkaojnkaaGreat.Rt
