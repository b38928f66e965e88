/-
  Lists that wait, and then are kept one by one.
-/
import Derived.Test.YtjilahbkolcekabGK1
namespace Go.Proofs.Ytjilahbkolcekab
open Go.ChangeShapes Go.WideShapes Go.ChangeAt Go.RowKit Go.Maps Tri
set_option maxHeartbeats 1000000
set_option maxRecDepth 100000

def fpW (va : Value) (Vs : List Value) (k : Nat) : Prop := va.ownBlock = some k ∨ ∃ v ∈ Vs, v.ownBlock = some k
/-- Lists in blocks of their own. -/
structure Wt (w : World) (B : Nat) (Vs : List Value) : Prop where
  own : ∀ v ∈ Vs, ∃ L, OwnD w B v L ∧ L.length ≤ 1024
  two : Vs.Pairwise fun a b => ∀ k, a.ownBlock = some k → b.ownBlock ≠ some k

theorem Wt.keeps {S : Nat → Prop} {w w' : World} {B : Nat} {Vs : List Value} (h : Wt w B Vs) (hk : Keeps S w w') (hn : ∀ v ∈ Vs, ∀ k, v.ownBlock = some k → ¬ S k) : Wt w' B Vs :=
  ⟨fun v hv => by
    obtain ⟨L, h1, h2⟩ := h.own v hv
    exact ⟨L, h1.keeps hk (hn v hv), h2⟩, h.two⟩
theorem OwnS.ne {w : World} {B B' k : Nat} {v u : Value} {Vs : List Value} {L : List Pod} (h : OwnS w B v Vs) (h' : OwnD w B' u L) (hk : u.ownBlock = some k) : v.ownBlock ≠ some k := fun e => by
  obtain ⟨cs, hc⟩ := h.kind e
  obtain ⟨cs', hc'⟩ := h'.kind hk
  rw [hc] at hc'
  simp at hc'

/-- The pair beside lists that wait. -/
def US (wa wr : World) (pb bn ba rb : Nat) (va : Value) (m : Nat) : Prop :=
  ∃ vp s Vs, OwnS wr wa.heap.size va Vs ∧ Vs.length ≤ m ∧ Wt wr wa.heap.size Vs ∧ Sd wa wr pb bn ba rb (fpW va Vs) vp s

section
variable {wa wr w' : World} {pb bn ba rb m : Nat} {va : Value}
theorem US.be (h : US wa wr pb bn ba rb va m) : Below wa.heap.size wa wr := by
  obtain ⟨vp, s, Vs, -, -, -, h4⟩ := h
  exact h4.be
theorem US.shape (h : US wa wr pb bn ba rb va m) : ∃ a n c, va = .slice a n c := by
  obtain ⟨vp, s, Vs, h1, -, -, -⟩ := h
  obtain ⟨a, n, c, e, -⟩ := h1.shape
  exact ⟨a, n, c, e⟩
theorem US.mono {m' : Nat} (h : US wa wr pb bn ba rb va m) (hm : m ≤ m') : US wa wr pb bn ba rb va m' := by
  obtain ⟨vp, s, Vs, h1, h2, h3, h4⟩ := h
  exact ⟨vp, s, Vs, h1, Nat.le_trans h2 hm, h3, h4⟩
theorem US.plays (h : US wa wr pb bn ba rb va m) (o : Stp) (hn : o.n.size ≤ maxLen) (ha : o.a < 4294967296) :
    Calls Try.prog 13 #[.pointer (some ⟨pb, 0, none⟩), .pointer (some ⟨rb, 0, none⟩), .agg #[.int .i64 o.k, .string o.n, .int .u32 (o.a : Int)]] wr fun e W => e = .returned (.bool true) ∧ US wa W pb bn ba rb va m := by
  obtain ⟨vp, s, Vs, h1, h2, h3, h4⟩ := h
  refine (plays_any o wr pb bn ba rb vp s h4.pr hn ha).mono ?_
  rintro e W ⟨rfl, hp⟩
  obtain ⟨vp', h5, h6⟩ := h4.step hp
  exact ⟨rfl, vp', _, Vs, h1.keeps h6 fun k hk e => e (.inl hk), h2, h3.keeps h6 fun v hv k hk e => e (.inr ⟨v, hv, hk⟩), h5⟩
theorem US.start {vp : Value} {s : Ist} (h : Sd wa wr pb bn ba rb (fun _ => False) vp s) : US wa wr pb bn ba rb (.slice none 0 0) 0 := by
  refine ⟨vp, s, [], OwnS.nil _ _, Nat.le_refl _, ⟨(fun v hv => by cases hv), List.Pairwise.nil⟩, Sd.turn (Z := fun _ => False) h (Keeps.refl _ _) (fun k e => e.elim) fun k hk => ?_⟩
  rcases hk with hk | ⟨v, hv, -⟩
  · cases hk
  · cases hv
/-- Two Lists are laid beside those that wait. -/
theorem US.lists (h : US wa wr pb bn ba rb va m) (hm : m + 2 ≤ 4294967296) :
    Calls Try.prog 20 #[.pointer (some ⟨pb, 0, none⟩)] wr fun e W1 => ∃ a1 n1 c1, e = .returned (.slice a1 n1 c1) ∧ Hid (Calls Try.prog 20 #[.pointer (some ⟨pb, 0, none⟩)] W1 fun e W2 => ∃ a2 n2 c2, e = .returned (.slice a2 n2 c2) ∧
      Hid (∃ a3 n3 c3 w3, Hid ((Builtin.append_ #[52, 52] 52 #[va, .slice (some ⟨W2.heap.size, 0, none⟩) 2 2]).run Try.prog (W2.alloc (.cells #[.slice a1 n1 c1, .slice a2 n2 c2] 49)) = .ok (.slice a3 n3 c3) w3) ∧ Hid (US wa w3 pb bn ba rb (.slice a3 n3 c3) (m + 2)))) := by
  obtain ⟨vp, s, Vs, h1, h2, h3, h4⟩ := h
  refine (list_any wr pb bn ba s h4.pr.ip).mono ?_
  rintro e W1 ⟨v1, L1, rfl, ho1, hs1, hb1⟩
  obtain ⟨a1, n1, c1, rfl, -, -, -, -⟩ := ho1.shape
  refine ⟨a1, n1, c1, rfl, ?_⟩
  refine (list_any W1 pb bn ba s (h4.pr.ip.below hb1)).mono ?_
  rintro e W2 ⟨v2, L2, rfl, ho2, hs2, hb2⟩
  obtain ⟨a2, n2, c2, rfl, -, -, -, -⟩ := ho2.shape
  refine ⟨a2, n2, c2, rfl, ?_⟩
  have hB := h4.be.size
  have hz1 := hb1.size
  have hz2 := hb2.size
  have hb12 : Below wr.heap.size wr W2 := hb1.trans (hb2.mono hz1)
  have hb3 : Below W2.heap.size W2 (W2.alloc (.cells #[.slice a1 n1 c1, .slice a2 n2 c2] 49)) := (Below.refl _ _).alloc (Nat.le_refl _) _
  have hz3 := hb3.size
  have r3 := heap_alloc_new W2 (.cells #[.slice a1 n1 c1, .slice a2 n2 c2] 49 (0, 0))
  have hb13 : Below wr.heap.size wr (W2.alloc (.cells #[.slice a1 n1 c1, .slice a2 n2 c2] 49)) := hb12.trans (hb3.mono hb12.size)
  obtain ⟨va', w3, hr, ho, hg, hn⟩ := append_sl2 _ 52 wa.heap.size W2.heap.size 2 2 va Vs [.slice a1 n1 c1, .slice a2 n2 c2] (h1.below hb13) rfl (by decide) (fun j x hj => by
    rw [cell_of_row _ _ _ _ _ _ r3, ← Array.getElem?_toList]; exact hj) (fun x hx => by
    simp only [List.mem_cons, List.not_mem_nil, or_false] at hx
    rcases hx with rfl | rfl <;> exact ⟨_, _, _, rfl⟩) (by omega) (by omega)
  obtain ⟨a3, n3, c3, rfl, -⟩ := ho.shape
  refine ⟨a3, n3, c3, w3, hr, vp, s, Vs ++ [.slice a1 n1 c1, .slice a2 n2 c2], ho, by simp; omega, ?_, ?_⟩
  · have hk : Keeps (fun k => va.ownBlock = some k) (W2.alloc (.cells #[.slice a1 n1 c1, .slice a2 n2 c2] 49)) w3 := Keeps.grown hg fun k e => e
    have hvs := h1.below hb13
    have hx1 := (ho1.below hb2).below hb3
    have hx2 := ho2.below hb3
    have hle := h4.pr.ip.ok.le
    refine ⟨fun v hv => ?_, ?_⟩
    · rcases List.mem_append.1 hv with hv | hv
      · obtain ⟨L, k1, k2⟩ := h3.own v hv
        have k3 := k1.below hb13
        exact ⟨L, k3.keeps hk fun k hk e => hvs.ne k3 hk e, k2⟩
      · simp only [List.mem_cons, List.not_mem_nil, or_false] at hv
        rcases hv with rfl | rfl
        · exact ⟨L1, (hx1.keeps hk fun k hk e => hvs.ne hx1 hk e).low (by omega), by rw [hs1.1.length_eq]; exact hle⟩
        · exact ⟨L2, (hx2.keeps hk fun k hk e => hvs.ne hx2 hk e).low (by omega), by rw [hs2.1.length_eq]; exact hle⟩
    · refine List.pairwise_append.2 ⟨h3.two, ?_, fun a ha b hb k e1 e2 => ?_⟩
      · refine List.pairwise_pair.2 fun k e1 e2 => ?_
        have := (ho1.lt e1).2
        have := (ho2.lt e2).1
        omega
      · obtain ⟨L, k1, -⟩ := h3.own a ha
        have q1 := (k1.lt e1).2
        simp only [List.mem_cons, List.not_mem_nil, or_false] at hb
        rcases hb with rfl | rfl
        · have := (ho1.lt e2).1; omega
        · have := (ho2.lt e2).1; omega
  · have hk : Keeps (fun k => va.ownBlock = some k) wr w3 := (Keeps.of hb13).trans (Keeps.grown hg fun k e => e)
    have hz4 := hg.size
    refine Sd.turn h4 hk (fun k e => .inl (.inl e)) fun k hk2 => ?_
    rcases hk2 with e | ⟨v, hv, e⟩
    · refine ⟨(ho.lt e).2, ?_⟩
      rcases hn k e with e | e
      · exact .inl (.inl e)
      · exact .inr (by omega)
    · rcases List.mem_append.1 hv with hv | hv
      · obtain ⟨L, k1, -⟩ := h3.own v hv
        have := (k1.lt e).2
        exact ⟨by omega, .inl (.inr ⟨v, hv, e⟩)⟩
      · simp only [List.mem_cons, List.not_mem_nil, or_false] at hv
        rcases hv with rfl | rfl
        · have := ho1.lt e; exact ⟨by omega, .inr (by omega)⟩
        · have := ho2.lt e; exact ⟨by omega, .inr (by omega)⟩
end

/-- The book while lists still wait. -/
structure KS (wa wr : World) (pb bn ba rb : Nat) (va : Value) (Vs : List Value) (bb i : Nat) (vp : Value) (s : Ist) (vl vm : Value) (Us : List Value) (Ps : List Pod) : Prop where
  ls : OwnS wr wa.heap.size va Vs
  bk : Bk wr wa.heap.size bb vl vm Us Ps
  len : Us.length ≤ 4 * i
  wt : Wt wr wa.heap.size (Vs.drop i)
  ap : ∀ k, fpW va (Vs.drop i) k → ¬ fpB bb vl vm Us k
  sd : Sd wa wr pb bn ba rb (fun k => fpB bb vl vm Us k ∨ fpW va (Vs.drop i) k) vp s

def KSx (wa wr : World) (pb bn ba rb : Nat) (va : Value) (Vs : List Value) (bb i : Nat) : Prop := ∃ vp s vl vm Us Ps, KS wa wr pb bn ba rb va Vs bb i vp s vl vm Us Ps

section
variable {wa wr w' : World} {pb bn ba rb bb i m : Nat} {va : Value} {Vs : List Value}
theorem US.book (h : US wa wr pb bn ba rb va m) : ∃ Vs, Vs.length ≤ m ∧ KSx wa (wr.alloc (.cells #[.slice none 0 0, .slice none 0 0] 54)) pb bn ba rb va Vs wr.heap.size 0 := by
  obtain ⟨vp, s, Vs, h1, h2, h3, h4⟩ := h
  have hb : Below wr.heap.size wr (wr.alloc (.cells #[.slice none 0 0, .slice none 0 0] 54)) := (Below.refl _ _).alloc (Nat.le_refl _) _
  have hz := hb.size
  have hfb : ∀ k, fpB wr.heap.size (.slice none 0 0) (.slice none 0 0) [] k → k = wr.heap.size := fun k hk => by
    rcases hk with rfl | hk | hk | ⟨v, hv, -⟩
    · rfl
    · cases hk
    · cases hk
    · cases hv
  refine ⟨Vs, h2, vp, s, .slice none 0 0, .slice none 0 0, [], [], h1.below hb, ⟨heap_alloc_new wr _, h4.be.size, OwnS.nil _ _, OwnD.nil _ _, rfl, fun i v p hv => by simp at hv, fun v hv => by cases hv⟩, Nat.zero_le _, h3.keeps (S := fun _ => False) (Keeps.of hb) (fun _ _ _ _ e => e), fun k hk e => ?_, ?_⟩
  · rw [List.drop_zero] at hk
    have := (h4.sep k hk).1
    have := hfb k e
    omega
  · rw [List.drop_zero]
    refine Sd.turn (Z := fun _ => False) h4 (Keeps.of hb) (fun k e => e.elim) fun k hk => ?_
    rcases hk with hk | hk
    · have := hfb k hk
      subst this
      exact ⟨by simp, .inr (Nat.le_refl _)⟩
    · have := (h4.sep k hk).1
      exact ⟨by omega, .inl hk⟩
theorem KSx.keep (h : KSx wa wr pb bn ba rb va Vs bb i) (hi : i < Vs.length) (hm : 4 * i + 4 < 4294967296) : ∃ a n c g ca, va = .slice (some ⟨g, 0, none⟩) Vs.length ca ∧ Hid (wr.cell? ⟨g, i, none⟩ = some (.slice a n c)) ∧
    Hid (Calls Try.prog 21 #[.pointer (some ⟨bb, 0, none⟩), .slice a n c] wr fun e W' => e = .returned (.tuple #[]) ∧ KSx wa W' pb bn ba rb va Vs bb (i + 1)) := by
  obtain ⟨vp, s, vl, vm, Us, Ps, h⟩ := h
  have hd : Vs.drop i = Vs[i] :: Vs.drop (i + 1) := List.drop_eq_getElem_cons hi
  obtain ⟨v, hv⟩ : ∃ v, v = Vs[i] := ⟨_, rfl⟩
  rw [← hv] at hd
  have hwt := h.wt
  have hap := h.ap
  have hsd := h.sd
  rw [hd] at hwt hap hsd
  obtain ⟨L, hL1, hL2⟩ := hwt.own v List.mem_cons_self
  obtain ⟨a, n, c, rfl, -, -, -, -⟩ := hL1.shape
  obtain ⟨aa, na, ca, rfl, HNA, -, -⟩ := h.ls.shape
  obtain ⟨g, rfl, hg, hc⟩ := h.ls.at (i := i) (x := .slice a n c) (by rw [List.getElem?_eq_getElem hi, hv])
  have hna : na = Vs.length := HNA.out
  subst hna
  refine ⟨a, n, c, g, ca, rfl, hc wr rfl, ?_⟩
  have hB := h.sd.be.size
  have hlen := h.len
  refine (keep_any wr wa.heap.size bb vl vm (.slice a n c) Us Ps L h.bk hL1 (fun k hk hf => hap k (.inr ⟨_, List.mem_cons_self, hk⟩) hf) hL2 (by omega) hB).mono ?_
  rintro e W' ⟨rfl, vl', vm', Us', Ps', k1, k2, k3, k4⟩
  have hz := k4.size
  have hpw := List.pairwise_cons.1 hwt.two
  have hnv : ∀ k, fpW (.slice (some ⟨g, 0, none⟩) Vs.length ca) (Vs.drop (i + 1)) k → Value.ownBlock (.slice a n c) ≠ some k := fun k hk e => by
    rcases hk with hk | ⟨x, hx, hk⟩
    · exact h.ls.ne hL1 e hk
    · exact hpw.1 x hx k e hk
  have hup : ∀ k, fpW (.slice (some ⟨g, 0, none⟩) Vs.length ca) (Vs.drop (i + 1)) k → fpW (.slice (some ⟨g, 0, none⟩) Vs.length ca) (.slice a n c :: Vs.drop (i + 1)) k := fun k hk => by
    rcases hk with hk | ⟨x, hx, hk⟩
    · exact .inl hk
    · exact .inr ⟨x, List.mem_cons_of_mem _ hx, hk⟩
  refine ⟨rfl, vp, s, vl', vm', Us', Ps', h.ls.keeps k4 fun k hk e => ?_, k1, by omega, ?_, fun k hk e => ?_, ?_⟩
  · rcases e with e | e
    · exact hap k (.inl hk) e
    · exact hnv k (.inl hk) e
  · refine Wt.keeps (w := wr) ⟨fun x hx => hwt.own x (List.mem_cons_of_mem _ hx), hpw.2⟩ k4 fun x hx k hk e => ?_
    rcases e with e | e
    · exact hap k (.inr ⟨x, List.mem_cons_of_mem _ hx, hk⟩) e
    · exact hnv k (.inr ⟨x, hx, hk⟩) e
  · rcases k3 k e with e | e | e
    · exact hap k (hup k hk) e
    · exact hnv k hk e
    · have := (hsd.sep k (.inr (hup k hk))).1
      omega
  · refine Sd.turn hsd k4 (fun k e => ?_) fun k hk => ?_
    · rcases e with e | e
      · exact .inl (.inl e)
      · exact .inl (.inr (.inr ⟨_, List.mem_cons_self, e⟩))
    · rcases hk with hk | hk
      · refine ⟨(k1.lt hk).2, ?_⟩
        rcases k3 k hk with e | e | e
        · exact .inl (.inl e)
        · exact .inl (.inr (.inr ⟨_, List.mem_cons_self, e⟩))
        · exact .inr e
      · have := (hsd.sep k (.inr (hup k hk))).1
        exact ⟨by omega, .inl (.inr (hup k hk))⟩
theorem KSx.shape (h : KSx wa wr pb bn ba rb va Vs bb i) : ∃ a c, va = .slice a Vs.length c ∧ Vs.length ≤ c ∧ c ≤ maxLen := by
  obtain ⟨vp, s, vl, vm, Us, Ps, h⟩ := h
  obtain ⟨a, n, c, rfl, hn, h1, h2⟩ := h.ls.shape
  have := hn.out
  subst this
  exact ⟨a, c, rfl, h1, h2⟩
theorem KSx.all (h : KSx wa wr pb bn ba rb va Vs bb i) : FS wa wr pb bn ba rb bb (4 * i) := by
  obtain ⟨vp, s, vl, vm, Us, Ps, h⟩ := h
  refine ⟨vp, s, vl, vm, Us, Ps, h.bk, h.len, Sd.turn (Z := fun _ => False) h.sd (Keeps.refl _ _) (fun k e => e.elim) fun k hk => ⟨(h.bk.lt hk).2, .inl (.inl hk)⟩⟩
end
end Go.Proofs.Ytjilahbkolcekab
