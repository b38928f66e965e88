import Derived.Test.YthpokoiclfbddaaDoorYNqJ
namespace Go.Proofs.YthpokoiclfbddaaDoor.Nq
open Go.Proofs.YthpokoiclfbddaaDoor Go.ChangeShapes Go.WideShapes Go.ChangeAt Go.RowKit Go.Maps Fl
open Go.Proofs.YthpokoiclfbddaaDoor.N hiding But But.set But.of_below But.refl But.trans But.below But.drew wpList_ld
open Go.Shelf
set_option maxHeartbeats 2000000
set_option maxRecDepth 100000

/-- Which port a search from s on finds. -/
def SeP (W : List Nat) (lo hi s q : Nat) : Prop := lo ≤ q ∧ q ≤ hi ∧ tk W q = false ∧
  ((s ≤ q ∧ ∀ p, s ≤ p → p < q → tk W p = true) ∨ (q < s ∧ (∀ p, s ≤ p → p ≤ hi → tk W p = true) ∧ ∀ p, lo ≤ p → p < q → tk W p = true))
def stt (lo hi want : Nat) : Nat := if want < lo ∨ hi < want then lo else want
def SeR (W : List Nat) (lo hi s : Nat) (e : Ending) : Prop := ∃ (r : Int) (ok : Bool), e = .returned (.tuple #[.int .i64 r, .bool ok]) ∧
  (ok = true → ∃ q : Nat, r = q ∧ SeP W lo hi s q) ∧ (ok = false → ∀ p, lo ≤ p → p ≤ hi → tk W p = true)

theorem search_any (pb lo hi b want : Nat) (T : Nat → List Nat) (mo : Option Nat) (f : Nat → Option (Option Nat)) (W : List Nat) (c : Int) (w : World) (h : PAt w pb lo hi T mo f) (hb : PsAt w b W c) (hW : PsW W) (hw : want < 65536) (hT : TabAt 0 Lib.deBruijn64tab w) :
    Calls Tryd.prog 22 #[.pointer (some ⟨pb, 0, none⟩), .pointer (some ⟨b, 0, none⟩), .int .i64 (want : Int)] w fun e w' => SeR W lo hi (stt lo hi want) e ∧ w' = w := by
  have c0 := h.cell0
  have c1 := h.cell1
  obtain ⟨l1, l2, l3⟩ := h.lim
  have HFF : Hid (∀ m n : Nat, m < 65536 → n < 65536 → Calls Tryd.prog 41 #[.pointer (some ⟨b, 0, none⟩), .int .i64 (m : Int), .int .i64 (n : Int)] w fun e w' => FF W m n e ∧ w' = w) := fun m n h1 h2 => firstFree_any b m n W c w hb hW h1 h2 hT
  have HL : Hid (1 ≤ lo ∧ lo ≤ hi ∧ hi < 65536 ∧ want < 65536) := hid ⟨l1, l2, l3, hw⟩
  have HSR : Hid (∀ s : Nat, s = stt lo hi want → lo ≤ s ∧ s ≤ hi) := fun s hs => by
    rw [hs]; unfold stt; have := HL.out; split <;> omega
  clear h hb hW hw hT
  by_cases hc1 : want < lo
  · have g1 : (want : Int) < (lo : Int) := by omega
    have HS : Hid (lo = stt lo hi want) := by unfold Hid stt; rw [if_pos (.inl hc1)]
    clear hc1 l1 l2 l3
    obtain ⟨hs1, hs2⟩ := HSR.out _ HS.out
    have HSS := hid (And.intro hs1 hs2)
    have hsp : IntKind.i64.wrap ((lo : Int) - 1) = ((lo - 1 : Nat) : Int) := by rw [IntKind.wrap_i64]; have := HL.out; have := HSS.out; omega
    rw [← HS.out]
    have HF1 := hid (HFF.out lo hi (by have := HL.out; omega) (by have := HL.out; omega))
    have HF2 := hid (HFF.out lo (lo - 1) (by have := HL.out; omega) (by have := HL.out; omega))
    clear hs1 hs2 HFF HSR HS
    obtain ⟨s2, HS2⟩ : ∃ s2, Hid (s2 = lo - 1) := ⟨_, rfl⟩
    rw [← HS2.out] at hsp HF2
    go_enter Tryd.func22, Tryd.ntmps22
    go_wp2_with fail
    refine HF1.out.mono ?_
    rintro _ _ ⟨⟨r, ok, rfl, h1, h2⟩, rfl⟩
    have HR1 := hid h1
    have HR2 := hid h2
    clear h1 h2
    cases ok with
    | true =>
      have hq := HR1.out rfl
      have HQ := hid hq
      clear hq HR1 HR2
      go_wp2_with fail
      refine bodyPost_ret (results_tmp2 Tryd.results22 _ _ _) rfl ⟨⟨r, true, rfl, fun _ => ?_, fun h => (by cases h)⟩, rfl⟩
      obtain ⟨q, e, a1, a2, a3, a4⟩ := HQ.out
      exact ⟨q, e, by have := HSS.out; omega, a2, a3, .inl ⟨a1, a4⟩⟩
    | false =>
      have hall := HR2.out rfl
      have HALL := hid hall
      clear hall HR1 HR2
      go_wp2_with fail
      refine HF2.out.mono ?_
      rintro _ _ ⟨⟨r2, ok2, rfl, h1, h2⟩, rfl⟩
      have HR1 := hid h1
      have HR2 := hid h2
      clear h1 h2
      go_wp2_with fail
      refine bodyPost_ret (results_tmp2 Tryd.results22 _ _ _) rfl ⟨⟨r2, ok2, rfl, fun h => ?_, fun h p p1 p2 => ?_⟩, rfl⟩
      · obtain ⟨q, e, a1, a2, a3, a4⟩ := HR1.out h
        have := HSS.out; have := HS2.out; have := HL.out
        exact ⟨q, e, a1, by omega, a3, .inr ⟨by omega, HALL.out, a4⟩⟩
      · have := HSS.out; have := HS2.out; have := HL.out
        by_cases e : p < lo
        · exact HR2.out h p p1 (by omega)
        · exact HALL.out p (by omega) p2
  · have g1 : ¬ (want : Int) < (lo : Int) := by omega
    by_cases hc2 : hi < want
    · have g2 : (hi : Int) < (want : Int) := by omega
      have HS : Hid (lo = stt lo hi want) := by unfold Hid stt; rw [if_pos (.inr hc2)]
      clear hc1 hc2 l1 l2 l3
      obtain ⟨hs1, hs2⟩ := HSR.out _ HS.out
      have HSS := hid (And.intro hs1 hs2)
      have hsp : IntKind.i64.wrap ((lo : Int) - 1) = ((lo - 1 : Nat) : Int) := by rw [IntKind.wrap_i64]; have := HL.out; have := HSS.out; omega
      rw [← HS.out]
      have HF1 := hid (HFF.out lo hi (by have := HL.out; omega) (by have := HL.out; omega))
      have HF2 := hid (HFF.out lo (lo - 1) (by have := HL.out; omega) (by have := HL.out; omega))
      clear hs1 hs2 HFF HSR HS
      obtain ⟨s2, HS2⟩ : ∃ s2, Hid (s2 = lo - 1) := ⟨_, rfl⟩
      rw [← HS2.out] at hsp HF2
      go_enter Tryd.func22, Tryd.ntmps22
      go_wp2_with fail
      refine HF1.out.mono ?_
      rintro _ _ ⟨⟨r, ok, rfl, h1, h2⟩, rfl⟩
      have HR1 := hid h1
      have HR2 := hid h2
      clear h1 h2
      cases ok with
      | true =>
        have hq := HR1.out rfl
        have HQ := hid hq
        clear hq HR1 HR2
        go_wp2_with fail
        refine bodyPost_ret (results_tmp2 Tryd.results22 _ _ _) rfl ⟨⟨r, true, rfl, fun _ => ?_, fun h => (by cases h)⟩, rfl⟩
        obtain ⟨q, e, a1, a2, a3, a4⟩ := HQ.out
        exact ⟨q, e, by have := HSS.out; omega, a2, a3, .inl ⟨a1, a4⟩⟩
      | false =>
        have hall := HR2.out rfl
        have HALL := hid hall
        clear hall HR1 HR2
        go_wp2_with fail
        refine HF2.out.mono ?_
        rintro _ _ ⟨⟨r2, ok2, rfl, h1, h2⟩, rfl⟩
        have HR1 := hid h1
        have HR2 := hid h2
        clear h1 h2
        go_wp2_with fail
        refine bodyPost_ret (results_tmp2 Tryd.results22 _ _ _) rfl ⟨⟨r2, ok2, rfl, fun h => ?_, fun h p p1 p2 => ?_⟩, rfl⟩
        · obtain ⟨q, e, a1, a2, a3, a4⟩ := HR1.out h
          have := HSS.out; have := HS2.out; have := HL.out
          exact ⟨q, e, a1, by omega, a3, .inr ⟨by omega, HALL.out, a4⟩⟩
        · have := HSS.out; have := HS2.out; have := HL.out
          by_cases e : p < lo
          · exact HR2.out h p p1 (by omega)
          · exact HALL.out p (by omega) p2
    · have g2 : ¬ (hi : Int) < (want : Int) := by omega
      have HS : Hid (want = stt lo hi want) := by unfold Hid stt; rw [if_neg (by omega)]
      clear hc1 hc2 l1 l2 l3
      obtain ⟨hs1, hs2⟩ := HSR.out _ HS.out
      have HSS := hid (And.intro hs1 hs2)
      have hsp : IntKind.i64.wrap ((want : Int) - 1) = ((want - 1 : Nat) : Int) := by rw [IntKind.wrap_i64]; have := HL.out; have := HSS.out; omega
      rw [← HS.out]
      have HF1 := hid (HFF.out want hi (by have := HL.out; omega) (by have := HL.out; omega))
      have HF2 := hid (HFF.out lo (want - 1) (by have := HL.out; omega) (by have := HL.out; omega))
      clear hs1 hs2 HFF HSR HS
      obtain ⟨s2, HS2⟩ : ∃ s2, Hid (s2 = want - 1) := ⟨_, rfl⟩
      rw [← HS2.out] at hsp HF2
      go_enter Tryd.func22, Tryd.ntmps22
      go_wp2_with fail
      refine HF1.out.mono ?_
      rintro _ _ ⟨⟨r, ok, rfl, h1, h2⟩, rfl⟩
      have HR1 := hid h1
      have HR2 := hid h2
      clear h1 h2
      cases ok with
      | true =>
        have hq := HR1.out rfl
        have HQ := hid hq
        clear hq HR1 HR2
        go_wp2_with fail
        refine bodyPost_ret (results_tmp2 Tryd.results22 _ _ _) rfl ⟨⟨r, true, rfl, fun _ => ?_, fun h => (by cases h)⟩, rfl⟩
        obtain ⟨q, e, a1, a2, a3, a4⟩ := HQ.out
        exact ⟨q, e, by have := HSS.out; omega, a2, a3, .inl ⟨a1, a4⟩⟩
      | false =>
        have hall := HR2.out rfl
        have HALL := hid hall
        clear hall HR1 HR2
        go_wp2_with fail
        refine HF2.out.mono ?_
        rintro _ _ ⟨⟨r2, ok2, rfl, h1, h2⟩, rfl⟩
        have HR1 := hid h1
        have HR2 := hid h2
        clear h1 h2
        go_wp2_with fail
        refine bodyPost_ret (results_tmp2 Tryd.results22 _ _ _) rfl ⟨⟨r2, ok2, rfl, fun h => ?_, fun h p p1 p2 => ?_⟩, rfl⟩
        · obtain ⟨q, e, a1, a2, a3, a4⟩ := HR1.out h
          have := HSS.out; have := HS2.out; have := HL.out
          exact ⟨q, e, a1, by omega, a3, .inr ⟨by omega, HALL.out, a4⟩⟩
        · have := HSS.out; have := HS2.out; have := HL.out
          by_cases e : p < want
          · exact HR2.out h p p1 (by omega)
          · exact HALL.out p (by omega) p2

/-! ### ports amid a law -/
def StP (w : World) (pb lo hi : Nat) (T : Nat → List Nat) (F : Nat → Prop) : Prop := ∃ mo f, PAt w pb lo hi T mo f ∧ ∀ k, F k ↔ fpP pb mo f k
/-- What a call leaves. -/
def StPD (w W : World) (pb lo hi : Nat) (T : Nat → List Nat) (F : Nat → Prop) : Prop := ∃ F', StP W pb lo hi T F' ∧ (∀ k, F' k → F k ∨ w.heap.size ≤ k) ∧ Me.Keeps F w W
section
variable {w w1 w' : World} {pb lo hi : Nat} {T : Nat → List Nat} {F : Nat → Prop}
theorem StP.lt (h : StP w pb lo hi T F) {k : Nat} (hk : F k) : k < w.heap.size := by
  obtain ⟨mo, f, h1, h2⟩ := h
  exact h1.lt ((h2 k).1 hk)
theorem StP.keeps {Z : Nat → Prop} (h : StP w pb lo hi T F) (hk : Me.Keeps Z w w') (hn : ∀ k, F k → ¬ Z k) : StP w' pb lo hi T F := by
  obtain ⟨mo, f, h1, h2⟩ := h
  exact ⟨mo, f, h1.keeps fun k e => hk.block k (h1.lt e) (hn k ((h2 k).2 e)), h2⟩
theorem StP.below (h : StP w pb lo hi T F) (hb : Below w.heap.size w w') : StP w' pb lo hi T F := h.keeps (Z := fun _ => False) (Me.Keeps.of hb) fun _ _ e => e
theorem StP.same (h : StP w pb lo hi T F) : StPD w w pb lo hi T F := ⟨F, h, fun _ e => .inl e, Me.Keeps.refl _ _⟩
theorem StP.lim (h : StP w pb lo hi T F) : 1 ≤ lo ∧ lo ≤ hi ∧ hi < 65536 := by
  obtain ⟨mo, f, h1, h2⟩ := h
  exact h1.lim
theorem StP.rng (h : StP w pb lo hi T F) : ∀ k, ∀ p ∈ T k, lo ≤ p ∧ p ≤ hi := by
  obtain ⟨mo, f, h1, h2⟩ := h
  exact h1.rng
theorem Own.len {L W : List Nat} (h : Own L W) : L.length ≤ 65536 := by
  have := List.Nodup.length_le_of_subset (l₂ := List.range 65536) h.1 fun x hx => List.mem_range.2 (h.2.1 x hx)
  rwa [List.length_range] at this
theorem Own.add {L W : List Nat} (h : Own L W) (hW : PsW W) {q : Nat} (hq : q < 65536) (hn : tk W q = false) : Own (L ++ [q]) (flip W q) := by
  have hm : q ∉ L := fun e => by rw [(h.2.2 q hq).1 e] at hn; cases hn
  refine ⟨?_, fun p hp => ?_, fun p hp => ?_⟩
  · rw [List.nodup_append]
    refine ⟨h.1, by simp, fun a ha b hb => ?_⟩
    simp at hb
    rw [hb]
    rintro rfl
    exact hm ha
  · rcases List.mem_append.1 hp with e | e
    · exact h.2.1 p e
    · simp at e; omega
  · rw [tk_flip hW hq, List.mem_append, h.2.2 p hp]
    by_cases e : p = q
    · subst e; simp [hn]
    · simp [e]
theorem Own.sub {L W : List Nat} (h : Own L W) (hW : PsW W) {q : Nat} (hq : q < 65536) (hn : tk W q = true) : Own (L.filter fun p => decide (p ≠ q)) (flip W q) ∧ (L.filter fun p => decide (p ≠ q)).length + 1 = L.length := by
  have hm : q ∈ L := (h.2.2 q hq).2 hn
  refine ⟨⟨h.1.filter _, fun p hp => h.2.1 p (List.mem_filter.1 hp).1, fun p hp => ?_⟩, ?_⟩
  · rw [tk_flip hW hq, List.mem_filter, h.2.2 p hp]
    by_cases e : p = q
    · subst e; simp [hn]
    · simp [e]
  · have hp : L.Perm (q :: L.filter fun p => decide (p ≠ q)) := by
      refine (List.perm_ext_iff_of_nodup h.1 (List.nodup_cons.2 ⟨fun e => ?_, h.1.filter _⟩)).2 fun p => ?_
      · have := (List.mem_filter.1 e).2
        simp at this
      · rw [List.mem_cons, List.mem_filter]
        by_cases e : p = q
        · subst e; simp [hm]
        · simp [e]
    have := hp.length_eq
    simp only [List.length_cons] at this
    omega
end
end Go.Proofs.YthpokoiclfbddaaDoor.Nq
