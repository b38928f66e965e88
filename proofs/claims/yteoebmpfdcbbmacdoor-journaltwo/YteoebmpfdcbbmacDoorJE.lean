/-
  putFrame, putHead, baseLen.
-/
import Derived.Test.YteoebmpfdcbbmacDoorJD
namespace Go.Proofs.YteoebmpfdcbbmacDoor
open Go.ChangeShapes Go.WideShapes Go.ChangeAt Go.RowKit Jn
set_option maxHeartbeats 1000000
set_option maxRecDepth 100000

theorem cut_any (g off n cap m : Nat) (i : Int) (hi : i = m) (hm : m ≤ n) (hc : n ≤ cap) : ∃ o', (m < cap → o' = off + m) ∧ o' ≤ off + m ∧ ∀ u : World, (Instr.sliceAt 22 (.slice (some ⟨g, off, none⟩) n cap) (some (.int .i64 i)) none none).run Tryd.prog u = .ok (.slice (some ⟨g, o', none⟩) (n - m) (cap - m)) u := by
  by_cases h : m < cap
  · exact ⟨off + m, fun _ => rfl, Nat.le_refl _, cut_at g off n cap m i hi hm h⟩
  · refine ⟨off, fun h' => absurd h' h, by omega, fun u => ?_⟩
    subst hi
    have hu : Tryd.prog.underlying 22 = some (.slice (Tryd.prog.elem 22)) := by kernel_rfl
    have hsz : (sizeOf (Tryd.prog.elem 22)).run Tryd.prog u = .ok 1 u := by kernel_rfl
    rw [run_sliceAt_slice (h := hu), run_slice_l (ht := hu) (h0 := by omega) (h1 := by omega), hsz]
    have hne : cap = m := by omega
    simp [Result.andThen, sliced, hne]

theorem splice_at {X A B R P : List Nat} {o : Nat} (hX : X = A ++ B ++ R) (hA : A.length = o) (hB : B.length = P.length) : splice X o P = A ++ P ++ R := by
  subst hX hA
  unfold splice
  rw [List.append_assoc, List.take_left, ← hB, ← List.append_assoc A B R, show A.length + B.length = (A ++ B).length by simp, List.drop_left]
  simp

theorem frame_split (g k : Nat) (r : List Nat) : frame g k r = [r.length, crc r, sel g k r.length (crc r)].flatMap w4 ++ r := by
  simp [frame]

theorem frame_laid {X F r : List Nat} {off o' cap : Nat} (l1 : F.length = 12) (h : off + 12 + r.length ≤ X.length) (ho : 12 < cap → o' = off + 12) (hcap : 12 + r.length ≤ cap) : splice (X.take off ++ F ++ X.drop (off + 12)) o' r = splice X off (F ++ r) := by
  by_cases h12 : 12 < cap
  · have ho' := ho h12
    have e : X.drop (off + 12) = (X.drop (off + 12)).take r.length ++ X.drop (off + 12 + r.length) := by
      conv => lhs; rw [← List.take_append_drop r.length (X.drop (off + 12)), List.drop_drop]
    rw [splice_at (A := X.take off ++ F) (B := (X.drop (off + 12)).take r.length) (R := X.drop (off + 12 + r.length)) ?_ (by rw [List.length_append, List.length_take]; omega) (by rw [List.length_take, List.length_drop]; omega)]
    · unfold splice
      rw [List.length_append, l1, ← Nat.add_assoc]
      simp [List.append_assoc]
    · conv => lhs; rw [e]
      simp [List.append_assoc]
  · have : r = [] := List.eq_nil_of_length_eq_zero (by omega)
    subst this
    unfold splice
    simp [l1]

theorem SeesB.keeps0 {S : Nat → Prop} {w w' : World} {v : Value} {L : List Nat} (h : SeesB w v L) (hb : Keeps S w w') (hn : L ≠ [] → Apart S v) : SeesB w' v L := by
  by_cases hL : L = []
  · subst hL
    obtain ⟨ao, cap, hv, h1, h2, -⟩ := h
    exact ⟨ao, cap, hv, h1, h2, fun j hj => absurd hj (by simp)⟩
  · exact h.keeps hb (hn hL)
theorem SeesB.apart_new {w : World} {v : Value} {L : List Nat} {g : Nat} (h : SeesB w v L) (hg : w.heap.size ≤ g) : L ≠ [] → Apart (At1 g) v := by
  intro hL a n c e hk
  obtain ⟨ao, cap, hv, h1, h2, h3⟩ := h
  obtain ⟨g', off, ha, hg', -⟩ := h3 0 (List.length_pos_iff.2 hL)
  rw [hv] at e
  simp at e
  rw [ha] at e
  obtain ⟨e, -⟩ := e
  simp at e
  subst e
  unfold At1 at hk
  simp at hk
  omega

/-- A frame is laid into a block of the caller's. -/
theorem putFrame_any (g off n cap ge k : Nat) (T : TypeId) (X r : List Nat) (v : Value) (w : World) (hB : Blk w g T X) (hv : SeesB w v r) (hvg : r ≠ [] → Apart (At1 g) v) (hg0 : 0 < g) (ht : TabN w) (hn : 12 + r.length ≤ n) (hc : n ≤ cap) (hcm : cap ≤ 1099511627776) (ho : off + n ≤ X.length) (hge : ge < 4294967296) (hk : k < 4294967296) (hr : r.length < 4294967296) :
    Calls Tryd.prog 50 #[.slice (some ⟨g, off, none⟩) n cap, .int .u32 (ge : Int), .int .u32 (k : Int), v] w fun e w' => e = .returned (.tuple #[]) ∧ Blk w' g T (splice X off (frame ge k r)) ∧ Keeps (At1 g) w w' := by
  obtain ⟨ao, rn, rc, rfl, HN, hn1, hn2⟩ := hv.shape
  unfold maxLen at hn2
  have hrn : rn < 4294967296 := by have := HN.out; omega
  have H1 := hid (sumOf_any _ _ w hv ht)
  have hcl := crc_lt r
  have H2 := hid (seal_any ge k rn (crc r) w hge hk hrn hcl ht)
  have HE0 : Hid (sel ge k rn (crc r) = sel ge k r.length (crc r)) := by unfold Hid; rw [HN.out]
  have hsl : sel ge k rn (crc r) < 4294967296 := crc_lt _
  obtain ⟨cr, HCR⟩ : ∃ cr, Hid (cr = crc r) := ⟨_, rfl⟩
  obtain ⟨se, HSE⟩ : ∃ se, Hid (se = sel ge k rn (crc r)) := ⟨_, rfl⟩
  rw [← HCR.out] at H1 H2 hcl HE0 hsl HSE
  rw [← HSE.out] at H2 hsl HE0
  have HB := hid hB
  have HV := hid hv
  have HVG := hid hvg
  have hglt := hB.lt
  obtain ⟨o', HO1, ho2, hcut⟩ := cut_any g off n cap 12 12 rfl (by omega) hc
  have HO1' := hid HO1
  have HF : Hid (splice (puts4 X off [rn, cr, se]) o' r = splice X off (frame ge k r) ∧ o' + r.length ≤ X.length) := by
    unfold Hid
    rw [puts4_eq _ _ _ (by simp; omega)]
    have e1 : frame ge k r = [rn, cr, se].flatMap w4 ++ r := by
      rw [frame_split, ← HCR.out, ← HE0.out, ← HN.out]
    have l1 : ([rn, cr, se].flatMap w4).length = 12 := rfl
    rw [e1]
    exact ⟨frame_laid l1 (by omega) HO1 (by omega), by omega⟩
  have h0g : ¬ (0 : Nat) = g := by omega
  clear hB hv hvg HO1 ht
  go_enter Tryd.func50, Tryd.ntmps50
  go_wp2_with fail
  refine H1.out.mono ?_
  rintro _ w1 ⟨rfl, rfl⟩
  go_wp2_with fail
  refine H2.out.mono ?_
  rintro _ w2 ⟨rfl, hb2⟩
  obtain ⟨w3, HW3⟩ : ∃ w3, Hid (w3 = w2.alloc (.cells #[.int .u32 (rn : Int), .int .u32 (cr : Int), .int .u32 (se : Int)] 67)) := ⟨_, rfl⟩
  have hb3 : Below w1.heap.size w1 w3 := by rw [HW3.out]; exact hb2.alloc hb2.size _
  have hN : w3.heap[w2.heap.size]? = some (.cells (u32s [rn, cr, se]).toArray 67 (0, 0)) := by rw [HW3.out]; exact heap_alloc_new w2 _
  have H3 := hid (putWords_any g off n cap w2.heap.size 3 T _ X [rn, cr, se] w3 (HB.out.below hb3 hglt) hN rfl (by have := hb2.size; omega) (by simp; omega) hc hcm ho (by intro x hx; simp at hx; omega))
  have HB3 := hid hb3
  clear hb2 hb3 hN
  go_wp2_with fail
  rw [← HW3.out]
  refine H3.out.mono ?_
  rintro _ w4 ⟨rfl, hb4, hk4⟩
  have HK4 : Hid (Keeps (At1 g) w1 w4) := (Keeps.of HB3.out).trans hk4
  have hv4 := HV.out.keeps0 HK4.out HVG.out
  obtain ⟨w5, hr5, hb5, hk5⟩ := copy_blk w4 3 T g o' (n - 12) (cap - 12) _ r ao rn rc hb4 hv4 (by omega) (by rw [puts4_len]; exact HF.out.2)
  rw [HF.out.1] at hb5
  have HF5 := hid (And.intro hb5 (HK4.out.trans hk5))
  clear hb5 hk5 hv4 hb4 hk4
  go_wp2_with fail
  exact bodyPost_end (results_none Tryd.results50 _ _ _) rfl ⟨rfl, HF5.out.1, HF5.out.2⟩
end Go.Proofs.YteoebmpfdcbbmacDoor
