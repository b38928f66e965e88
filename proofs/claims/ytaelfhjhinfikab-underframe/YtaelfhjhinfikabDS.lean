/-
  One net that plays on; lists of packets that are cut, made.
-/
import Derived.Test.YtaelfhjhinfikabDR
namespace Go.Proofs.Ytaelfhjhinfikab
open Go.ChangeShapes Go.WideShapes Go.ChangeAt Go.RowKit Me
set_option maxHeartbeats 2000000
set_option maxRecDepth 100000

/-- A net: all of it new since w0, and apart from K. -/
structure Pn (w0 : World) (K : Nat → Prop) (w : World) (pb m : Nat) (S : List Pk) : Prop where
  nt : ∃ F, Nt w pb m S F ∧ (∀ k, F k → w0.heap.size ≤ k ∧ ¬ K k)
  be : Below w0.heap.size w0 w
  inn : ∀ k, K k → k < w.heap.size

section
variable {w0 w w' : World} {K : Nat → Prop} {pb m : Nat} {S S' : List Pk}
theorem Pn.below (h : Pn w0 K w pb m S) (hb : Below w.heap.size w w') : Pn w0 K w' pb m S := by
  obtain ⟨⟨F, h1, h2⟩, h3, h4⟩ := h
  exact ⟨⟨F, h1.below hb, h2⟩, h3.trans (hb.mono h3.size), fun k e => Nat.lt_of_lt_of_le (h4 k e) hb.size⟩
/-- What was made since is kept apart too. -/
theorem Pn.more {K' : Nat → Prop} (h : Pn w0 K w pb m S) (hb : Below w.heap.size w w') (hK : ∀ k, K' k → (K k ∨ w.heap.size ≤ k) ∧ k < w'.heap.size) : Pn w0 K' w' pb m S := by
  obtain ⟨⟨F, h1, h2⟩, h3, h4⟩ := h
  refine ⟨⟨F, h1.below hb, fun k hk => ⟨(h2 k hk).1, fun e => ?_⟩⟩, h3.trans (hb.mono h3.size), fun k e => (hK k e).2⟩
  rcases (hK k e).1 with e | e
  · exact (h2 k hk).2 e
  · have := h1.lt hk; omega
theorem Pn.less {K' : Nat → Prop} (h : Pn w0 K w pb m S) (hK : ∀ k, K' k → K k) : Pn w0 K' w pb m S := by
  obtain ⟨⟨F, h1, h2⟩, h3, h4⟩ := h
  exact ⟨⟨F, h1, fun k hk => ⟨(h2 k hk).1, fun e => (h2 k hk).2 (hK k e)⟩⟩, h3, fun k e => h4 k (hK k e)⟩
/-- Blocks of K are written. -/
theorem Pn.write {X : Nat → Prop} (h : Pn w0 K w pb m S) (hk : Keeps X w w') (hX : ∀ k, X k → K k ∧ w0.heap.size ≤ k) : Pn w0 K w' pb m S := by
  obtain ⟨⟨F, h1, h2⟩, h3, h4⟩ := h
  exact ⟨⟨F, h1.keeps hk fun k e e2 => (h2 k e).2 (hX k e2).1, h2⟩, hk.below' h3 (fun k e => (hX k e).2) (Nat.le_refl _), fun k e => Nat.lt_of_lt_of_le (h4 k e) hk.size⟩
theorem Pn.le (h : Pn w0 K w pb m S) : S.length ≤ m ∧ m ≤ 4096 := by
  obtain ⟨⟨F, h1, h2⟩, h3, h4⟩ := h
  exact h1.le
theorem Pn.of {F : Nat → Prop} (h : Pn w0 K w pb m S) (hF : ∀ k, F k → w0.heap.size ≤ k ∧ ¬ K k) (hd : NtD w w' pb m S' F) : Pn w0 K w' pb m S' ∧ Keeps (fun k => ¬ K k) w w' := by
  obtain ⟨F', q1, q2, q3⟩ := hd
  refine ⟨⟨⟨F', q1, fun k hk => ?_⟩, q3.below' h.be (fun k e => (hF k e).1) (Nat.le_refl _), fun k e => Nat.lt_of_lt_of_le (h.inn k e) q3.size⟩, q3.mono fun k _ e => (hF k e).2⟩
  rcases q2 k hk with e | e
  · exact hF k e
  · exact ⟨Nat.le_trans h.be.size e, fun e2 => by have := h.inn k e2; omega⟩

theorem Pn.put {v : Value} {L : List Pk} (h : Pn w0 K w pb m S) (hv : SeesS K w v L) : Calls Try.prog 16 #[.pointer (some ⟨pb, 0, none⟩), v] w fun e w' => e = .returned (.tuple #[.int .i64 ((puN m S L : Nat) : Int), .int .i64 ((puE m S L : Nat) : Int)]) ∧ Pn w0 K w' pb m (puS m S L) ∧ Keeps (fun k => ¬ K k) w w' := by
  obtain ⟨F, h1, h2⟩ := h.nt
  exact (put_any w K F pb m v S L h1 hv fun k e => (h2 k e).2).mono fun e w' ⟨he, hd⟩ => ⟨he, h.of h2 hd⟩
theorem Pn.copy (h : Pn w0 K w pb m S) (i : Int) : Calls Try.prog 18 #[.pointer (some ⟨pb, 0, none⟩), .int .i64 i] w fun e w' => e = .returned (.int .i64 ((coE m S i : Nat) : Int)) ∧ Pn w0 K w' pb m (coS m S i) ∧ Keeps (fun k => ¬ K k) w w' := by
  obtain ⟨F, h1, h2⟩ := h.nt
  exact (copy_any w F pb m S i h1).mono fun e w' ⟨he, hd⟩ => ⟨he, h.of h2 hd⟩
theorem Pn.lose (h : Pn w0 K w pb m S) (i : Int) : Calls Try.prog 28 #[.pointer (some ⟨pb, 0, none⟩), .int .i64 i] w fun e w' => e = .returned (.int .i64 ((tkE S i : Nat) : Int)) ∧ Pn w0 K w' pb m (tkS S i) ∧ Keeps (fun k => ¬ K k) w w' := by
  obtain ⟨F, h1, h2⟩ := h.nt
  exact (lose_any w F pb m S i h1).mono fun e w' ⟨he, hd⟩ => ⟨he, h.of h2 hd⟩
theorem Pn.spoil (h : Pn w0 K w pb m S) (i a : Int) {x : Nat} (hx : x < 256) : Calls Try.prog 17 #[.pointer (some ⟨pb, 0, none⟩), .int .i64 i, .int .i64 a, .int .u8 (x : Int)] w fun e w' => e = .returned (.int .i64 ((spE S i a x : Nat) : Int)) ∧ Pn w0 K w' pb m (spS S i a x) ∧ Keeps (fun k => ¬ K k) w w' := by
  obtain ⟨F, h1, h2⟩ := h.nt
  exact (spoil_any w F pb m x S i a h1 hx).mono fun e w' ⟨he, hd⟩ => ⟨he, h.of h2 hd⟩
/-- Take: the bytes lie in a new block, apart from the net. -/
theorem Pn.take (h : Pn w0 K w pb m S) (i : Int) : Calls Try.prog 24 #[.pointer (some ⟨pb, 0, none⟩), .int .i64 i] w fun e w' => ∃ a n c, e = .returned (.tuple #[.agg #[.int .u32 (((tkP S i).ad : Nat) : Int), .slice a n c], .int .i64 ((tkE S i : Nat) : Int)]) ∧ OwnB w' w.heap.size (.slice a n c) (tkP S i).bs ∧ Pn w0 (fun k => K k ∨ Value.ownBlock (.slice a n c) = some k) w' pb m (tkS S i) ∧ Keeps (fun k => ¬ K k) w w' := by
  obtain ⟨F, h1, h2⟩ := h.nt
  refine (take_any w F pb m S i h1).mono ?_
  rintro e w' ⟨a, n, c, he, ho, F', q1, q2, q3, q4⟩
  obtain ⟨p1, p2⟩ := h.of h2 ⟨F', q1, q2, q3⟩
  refine ⟨a, n, c, he, ho, ⟨⟨F', q1, fun k hk => ?_⟩, p1.be, fun k e => ?_⟩, p2⟩
  · have hk2 : w0.heap.size ≤ k ∧ ¬ K k := by
      rcases q2 k hk with e | e
      · exact h2 k e
      · exact ⟨Nat.le_trans h.be.size e, fun e2 => by have := h.inn k e2; omega⟩
    refine ⟨hk2.1, fun e => ?_⟩
    rcases e with e | e
    · exact hk2.2 e
    · exact q4 k e hk
  · rcases e with e | e
    · exact p1.inn k e
    · exact (ho.lt e).2
theorem Pn.list (h : Pn w0 K w pb m S) : Calls Try.prog 20 #[.pointer (some ⟨pb, 0, none⟩)] w fun e w' => ∃ a n c, e = .returned (.slice a n c) ∧ Below w.heap.size w w' ∧ (∃ E, Fl w' (.slice a n c) E ∧ E.map En.pk = S ∧ ∀ k, fpF (.slice a n c) E k → w.heap.size ≤ k) ∧ n = S.length := by
  obtain ⟨F, h1, h2⟩ := h.nt
  refine (list_any w F pb m S h1).mono ?_
  rintro e w' ⟨a, n, c, he, hb, E, hf, hs, hn⟩
  refine ⟨a, n, c, he, hb, ⟨E, hf, hs, hn⟩, ?_⟩
  obtain ⟨a', c', hv, -⟩ := row_len hf.row
  simp at hv
  rw [hv.2.1, ← hs, List.length_map]
end

theorem pn_new (l : Int) (w : World) : Calls Try.prog 14 #[.int .i64 l] w fun e w' =>
    (newB l = false ∧ e = .returned (.tuple #[.pointer none, .int .i64 1]) ∧ w' = w) ∨
    (newB l = true ∧ ∃ m pb : Nat, l = (m : Int) ∧ e = .returned (.tuple #[.pointer (some ⟨pb, 0, none⟩), .int .i64 0]) ∧ Pn w (fun k => k < w.heap.size) w' pb m []) := by
  refine (new_any l w).mono ?_
  rintro e w' (h | ⟨hb, m, hl, he, hat, hbe⟩)
  · exact .inl h
  · refine .inr ⟨hb, m, w.heap.size, hl, he, ⟨_, new_ho hat (newB_le (by rw [← hl]; exact hb)).2, fun k e => ⟨by omega, by omega⟩⟩, hbe, fun k e => Nat.lt_of_lt_of_le e hbe.size⟩

/-! ### lists of packets -/
section
variable {K : Nat → Prop} {w : World}
theorem sees_one {b ad : Nat} {u : Value} {L : List Nat} (hr : w.heap[b]? = some (.cells #[.int .u32 (ad : Int), u] 41 (0, 0))) (hK : K b) (hu : SeesB K w u L) (had : ad < 4294967296) : SeesS K w (.slice (some ⟨b, 0, none⟩) 1 1) [⟨ad, L⟩] := by
  refine ⟨_, 1, rfl, ⟨Nat.le_refl _, fun e => by cases e⟩, by decide, fun j hj => ?_⟩
  match j, hj with
  | 0, _ => exact ⟨b, 0, u, rfl, ⟨(Array.getElem?_eq_some_iff.1 hr).1, hK⟩, by rw [cell_of_row _ _ _ _ _ _ hr]; rfl, by rw [cell_of_row _ _ _ _ _ _ hr]; rfl, hu, had⟩
theorem sees_two {b ad : Nat} {u : Value} {L : List Nat} (hr : w.heap[b]? = some (.cells #[.int .u32 (ad : Int), u, .int .u32 (ad : Int), u] 41 (0, 0))) (hK : K b) (hu : SeesB K w u L) (had : ad < 4294967296) : SeesS K w (.slice (some ⟨b, 0, none⟩) 2 2) [⟨ad, L⟩, ⟨ad, L⟩] := by
  refine ⟨_, 2, rfl, ⟨Nat.le_refl _, fun e => by cases e⟩, by decide, fun j hj => ?_⟩
  match j, hj with
  | 0, _ => exact ⟨b, 0, u, rfl, ⟨(Array.getElem?_eq_some_iff.1 hr).1, hK⟩, by rw [cell_of_row _ _ _ _ _ _ hr]; rfl, by rw [cell_of_row _ _ _ _ _ _ hr]; rfl, hu, had⟩
  | 1, _ => exact ⟨b, 0, u, rfl, ⟨(Array.getElem?_eq_some_iff.1 hr).1, hK⟩, by rw [cell_of_row _ _ _ _ _ _ hr]; rfl, by rw [cell_of_row _ _ _ _ _ _ hr]; rfl, hu, had⟩

theorem SeesS.takeS {ao : Option Addr} {n cap : Nat} {L : List Pk} (h : SeesS K w (.slice ao n cap) L) (b : Nat) (hb : b ≤ n) : SeesS K w (.slice ao b cap) (L.take b) := by
  obtain ⟨ao1, cap1, hv, h1, h2, h3⟩ := h
  simp at hv
  obtain ⟨rfl, hlen, rfl⟩ := hv
  refine ⟨ao, cap, by rw [List.length_take]; congr 1; omega, ⟨by rw [List.length_take]; omega, h1.2⟩, h2, fun j hj => ?_⟩
  rw [List.length_take] at hj
  obtain ⟨g, off, u, ha, hg, c0, c1, c2, c3⟩ := h3 j (by omega)
  exact ⟨g, off, u, ha, hg, by rw [List.getElem_take]; exact c0, c1, by rw [List.getElem_take]; exact c2, by rw [List.getElem_take]; exact c3⟩
theorem SeesS.lowS {ao : Option Addr} {n cap : Nat} {L : List Pk} (h : SeesS K w (.slice ao n cap) L) (m : Nat) (hm : m ≤ n) :
    SeesS K w (.slice (if cap = m then ao else ao.map (·.add (m * 2))) (n - m) (cap - m)) (L.drop m) := by
  obtain ⟨ao1, cap1, hv, h1, h2, h3⟩ := h
  simp at hv
  obtain ⟨rfl, hlen, rfl⟩ := hv
  refine ⟨_, cap - m, by rw [List.length_drop, hlen], ⟨by rw [List.length_drop]; omega, fun e => ?_⟩, by omega, fun j hj => ?_⟩
  · split at e
    · omega
    · cases ao with
      | none => have := h1.2 rfl; omega
      | some a => cases e
  · rw [List.length_drop] at hj
    obtain ⟨g, off, u, ha, hg, c0, c1, c2, c3⟩ := h3 (m + j) (by omega)
    subst ha
    have hne : ¬ cap = m := by omega
    refine ⟨g, off + m * 2, u, ?_, hg, ?_, ?_, ?_, ?_⟩
    · rw [if_neg hne, Option.map_some, Addr.add_mid]
    · rw [List.getElem_drop, show off + m * 2 + j * 2 = off + (m + j) * 2 by omega]; exact c0
    · rw [show off + m * 2 + j * 2 + 1 = off + (m + j) * 2 + 1 by omega]; exact c1
    · rw [List.getElem_drop]; exact c2
    · rw [List.getElem_drop]; exact c3
/-- A cut 'x[a:b]'. -/
theorem SeesS.mid {ao : Option Addr} {n cap : Nat} {L : List Pk} (h : SeesS K w (.slice ao n cap) L) (a b : Nat) (i k : Int) (hi : i = a) (hk : k = b) (hab : a ≤ b) (hb : b ≤ n) :
    ∃ ao', Hid (SeesS K w (.slice ao' (b - a) (cap - a)) ((L.take b).drop a)) ∧ ∀ u : World, (Instr.sliceAt 33 (.slice ao n cap) (some (.int .i64 i)) (some (.int .i64 k)) none).run Try.prog u = .ok (.slice ao' (b - a) (cap - a)) u := by
  subst hi hk
  have hcap : n ≤ cap := by obtain ⟨_, _, hv, h1, _⟩ := h; simp at hv; obtain ⟨rfl, rfl, rfl⟩ := hv; exact h1.1
  refine ⟨_, (h.takeS b hb).lowS a hab, fun u => ?_⟩
  rw [run_sliceAt_slice (h := ueS), run_slice_lh (ht := ueS) (h0 := by omega) (h1 := by omega) (h2 := by omega), szeS]
  simp [Result.andThen, sliced]
/-- A cut 'x[a:]'. -/
theorem SeesS.low {ao : Option Addr} {n cap : Nat} {L : List Pk} (h : SeesS K w (.slice ao n cap) L) (a : Nat) (i : Int) (hi : i = a) (ha : a ≤ n) :
    ∃ ao', Hid (SeesS K w (.slice ao' (n - a) (cap - a)) (L.drop a)) ∧ ∀ u : World, (Instr.sliceAt 33 (.slice ao n cap) (some (.int .i64 i)) none none).run Try.prog u = .ok (.slice ao' (n - a) (cap - a)) u := by
  subst hi
  have hcap : n ≤ cap := by obtain ⟨_, _, hv, h1, _⟩ := h; simp at hv; obtain ⟨rfl, rfl, rfl⟩ := hv; exact h1.1
  refine ⟨_, h.lowS a ha, fun u => ?_⟩
  rw [run_sliceAt_slice (h := ueS), run_slice_l (ht := ueS) (h0 := by omega) (h1 := by omega), szeS]
  simp [Result.andThen, sliced]
/-- A cut 'x[:b]'. -/
theorem SeesS.high {ao : Option Addr} {n cap : Nat} {L : List Pk} (h : SeesS K w (.slice ao n cap) L) (b : Nat) (i : Int) (hi : i = b) (hb : b ≤ n) :
    ∃ ao', Hid (SeesS K w (.slice ao' b cap) (L.take b)) ∧ ∀ u : World, (Instr.sliceAt 33 (.slice ao n cap) none (some (.int .i64 i)) none).run Try.prog u = .ok (.slice ao' b cap) u := by
  subst hi
  have hcap : n ≤ cap := by obtain ⟨_, _, hv, h1, _⟩ := h; simp at hv; obtain ⟨rfl, rfl, rfl⟩ := hv; exact h1.1
  refine ⟨ao, h.takeS b hb, fun u => ?_⟩
  rw [run_sliceAt_slice (h := ueS), run_slice_h (ht := ueS) (h0 := by omega) (h2 := by omega), szeS]
  simp [Result.andThen, sliced]
  intro _
  cases ao <;> simp [Addr.add]
end

/-! ### lengths -/
theorem puS_len (m : Nat) (S L : List Pk) : (puS m S L).length = S.length + puN m S L := by
  unfold puS
  rw [List.length_append, List.length_take]
  have := puN_le m S L
  omega
theorem tkS_len (S : List Pk) (i : Int) : (tkS S i).length + (if tkE S i = 0 then 1 else 0) = S.length := by
  unfold tkS tkE
  cases h : inR i S.length with
  | false => simp
  | true =>
    obtain ⟨j, rfl, hj⟩ := inR_true h
    simp only [if_true, Int.toNat_natCast]
    rw [List.length_eraseIdx_of_lt hj]
    omega
theorem coS_len (m : Nat) (S : List Pk) (i : Int) : (coS m S i).length = S.length + (if coE m S i = 0 then 1 else 0) := by
  unfold coS
  split <;> simp
theorem spS_len (S : List Pk) (i a : Int) (x : Nat) : (spS S i a x).length = S.length := by
  unfold spS
  split <;> simp
end Go.Proofs.Ytaelfhjhinfikab
