/-
  What was written is read back.
-/
import Derived.Test.YteoebmpfdcbbmacDoorJV
namespace Jn
set_option maxRecDepth 100000

theorem getD_app_left {L M : List Nat} {i : Nat} (h : i < L.length) : (L ++ M).getD i 0 = L.getD i 0 := by
  simp [List.getD_eq_getElem?_getD, List.getElem?_append_left h]
theorem num_at (L M : List Nat) {n : Nat} (hn : n < 4294967296) (i : Nat) (hi : L.length = i) : num (L ++ (w4 n ++ M)) i = n := by
  have h := num_skip L (w4 n ++ M) 0
  rw [Nat.add_zero, hi] at h
  rw [h, num_w4 hn]

theorem frame_nums {g k : Nat} {r rest : List Nat} (hr : r.length < 4294967296) : num (frame g k r ++ rest) 0 = r.length ∧ num (frame g k r ++ rest) 4 = crc r ∧ num (frame g k r ++ rest) 8 = sel g k r.length (crc r) ∧ (frame g k r ++ rest).drop 12 = r ++ rest := by
  unfold frame
  refine ⟨?_, ?_, ?_, ?_⟩
  · have := num_at [] (w4 (crc r) ++ (w4 (sel g k r.length (crc r)) ++ (r ++ rest))) hr 0 rfl
    simpa [List.append_assoc] using this
  · have := num_at (w4 r.length) (w4 (sel g k r.length (crc r)) ++ (r ++ rest)) (crc_lt r) 4 rfl
    simpa [List.append_assoc] using this
  · have := num_at (w4 r.length ++ w4 (crc r)) (r ++ rest) (show sel g k r.length (crc r) < 4294967296 from crc_lt _) 8 rfl
    simpa [List.append_assoc] using this
  · rw [List.append_assoc, List.append_assoc]
    have l : (w4 r.length ++ w4 (crc r) ++ w4 (sel g k r.length (crc r))).length = 12 := rfl
    rw [← List.append_assoc, ← List.append_assoc]
    rw [show w4 r.length ++ w4 (crc r) ++ w4 (sel g k r.length (crc r)) ++ r ++ rest = (w4 r.length ++ w4 (crc r) ++ w4 (sel g k r.length (crc r))) ++ (r ++ rest) by simp [List.append_assoc]]
    exact List.drop_left' l

/-- Where do frames that begin at a place end? -/
def metF (base : Nat) : Bool → Nat → List (List Nat) → Bool
  | m, _, [] => m
  | m, fin, r :: rs => metF base (m || fin + (12 + r.length) == base) (fin + (12 + r.length)) rs

theorem rd_frame {g base fin : Nat} {r rest : List Nat} {recs : List (List Nat)} {met : Bool} (hr : r.length ≤ 65536) :
    rd g base (frame g recs.length r ++ rest) recs fin met = rd g base rest (recs ++ [r]) (fin + (12 + r.length)) (met || fin + (12 + r.length) == base) := by
  obtain ⟨n0, n4, n8, hd⟩ := frame_nums (g := g) (k := recs.length) (rest := rest) (show r.length < 4294967296 by omega)
  have hl : (frame g recs.length r ++ rest).length = 12 + r.length + rest.length := by rw [List.length_append, frame_len]
  have hf : fits g recs.length (frame g recs.length r ++ rest) = true := by
    unfold fits
    rw [n0, n4, n8]
    simp [hr]
  have htk : ((frame g recs.length r ++ rest).drop 12).take r.length = r := by rw [hd]; exact List.take_left
  conv => lhs; rw [rd, dif_neg (by omega), if_neg (by rw [hf]; simp), if_neg (by rw [n0]; omega), n0, if_pos (by rw [htk, n4]), htk]
  congr 1
  rw [← List.drop_drop, hd, List.drop_left]

theorem rd_frames {g base : Nat} : ∀ (rs : List (List Nat)) (tail : List Nat) (recs : List (List Nat)) (fin : Nat) (met : Bool), (∀ r ∈ rs, r.length ≤ 65536) →
    rd g base (frames g recs.length rs ++ tail) recs fin met = rd g base tail (recs ++ rs) (fin + baseL rs) (metF base met fin rs)
  | [], tail, recs, fin, met, _ => by simp [frames, baseL, metF]
  | r :: rs, tail, recs, fin, met, h => by
    rw [frames, List.append_assoc, rd_frame (h r (by simp))]
    have ih := rd_frames (g := g) (base := base) rs tail (recs ++ [r]) (fin + (12 + r.length)) (met || fin + (12 + r.length) == base) (fun q hq => h q (by simp [hq]))
    rw [List.length_append, List.length_singleton] at ih
    rw [ih, metF, List.append_assoc]
    simp [baseL, Nat.add_assoc]

theorem metF_true (base : Nat) : ∀ (rs : List (List Nat)) (fin : Nat), metF base true fin rs = true
  | [], _ => rfl
  | r :: rs, fin => by rw [metF, Bool.true_or]; exact metF_true base rs _
theorem metF_append (base : Nat) : ∀ (rs qs : List (List Nat)) (m : Bool) (fin : Nat), metF base m fin (rs ++ qs) = metF base (metF base m fin rs) (fin + baseL rs) qs
  | [], qs, m, fin => by simp [metF, baseL]
  | r :: rs, qs, m, fin => by
    rw [List.cons_append, metF, metF_append base rs qs, metF]
    simp [baseL, Nat.add_assoc]
/-- The frames of the base end at the base's end. -/
theorem metF_base : ∀ (rs : List (List Nat)) (fin : Nat), metF (fin + baseL rs) (fin == fin + baseL rs) fin rs = true
  | [], fin => by simp [metF, baseL]
  | r :: rs, fin => by
    have ih := metF_base rs (fin + (12 + r.length))
    have e : fin + (12 + r.length) + baseL rs = fin + baseL (r :: rs) := by simp [baseL]; omega
    rw [e] at ih
    rw [metF]
    cases h : (fin == fin + baseL (r :: rs)) with
    | true => rw [Bool.true_or]; exact metF_true _ _ _
    | false => rw [Bool.false_or]; exact ih

theorem head_nums {g base : Nat} (F : List Nat) (hg : g < 4294967296) (hb : base < 4294967296) : num (head g base ++ F) 0 = 2003134068 ∧ num (head g base ++ F) 4 = g ∧ num (head g base ++ F) 8 = base ∧ num (head g base ++ F) 12 = crc (front g base) ∧ (head g base ++ F).take 12 = front g base ∧ (head g base ++ F).drop 16 = F := by
  unfold head front
  refine ⟨?_, ?_, ?_, ?_, ?_, ?_⟩
  · have := num_at [] (w4 g ++ (w4 base ++ (w4 (crc ([119, 101, 102, 116] ++ w4 g ++ w4 base)) ++ F))) (show 2003134068 < 4294967296 by decide) 0 rfl
    rw [show w4 2003134068 = [119, 101, 102, 116] from rfl] at this
    simpa [List.append_assoc] using this
  · have := num_at [119, 101, 102, 116] (w4 base ++ (w4 (crc ([119, 101, 102, 116] ++ w4 g ++ w4 base)) ++ F)) hg 4 rfl
    simpa [List.append_assoc] using this
  · have := num_at ([119, 101, 102, 116] ++ w4 g) (w4 (crc ([119, 101, 102, 116] ++ w4 g ++ w4 base)) ++ F) hb 8 rfl
    simpa [List.append_assoc] using this
  · have := num_at ([119, 101, 102, 116] ++ w4 g ++ w4 base) F (crc_lt ([119, 101, 102, 116] ++ w4 g ++ w4 base)) 12 rfl
    simpa [List.append_assoc] using this
  · rw [List.append_assoc]
    exact List.take_left' rfl
  · exact List.drop_left' rfl

/-- An area that was written whole, and more behind its base. -/
theorem rdA_gen {g : Nat} {rs more : List (List Nat)} {tail : List Nat} (hg : g < 4294967296) (hr : ∀ r ∈ rs, r.length ≤ 65536) (hm : ∀ r ∈ more, r.length ≤ 65536) (hlen : 16 + baseL rs + baseL more + tail.length ≤ 1048576) :
    rdA (gener g rs ++ frames g rs.length more ++ tail) = rd g (16 + baseL rs) tail (rs ++ more) (16 + baseL rs + baseL more) true := by
  have e : gener g rs ++ frames g rs.length more ++ tail = head g (baseL rs) ++ (frames g 0 (rs ++ more) ++ tail) := by
    rw [gener, frames_append, Nat.zero_add]
    simp [List.append_assoc]
  rw [e]
  obtain ⟨q0, q4, q8, q12, qt, qd⟩ := head_nums (frames g 0 (rs ++ more) ++ tail) hg (show baseL rs < 4294967296 by omega)
  have hl : (head g (baseL rs) ++ (frames g 0 (rs ++ more) ++ tail)).length = 16 + baseL rs + baseL more + tail.length := by
    rw [List.length_append, List.length_append, head_len, frames_len, baseL_append]; omega
  have hh : headOk (head g (baseL rs) ++ (frames g 0 (rs ++ more) ++ tail)) = true := by
    unfold headOk
    rw [q0, q12, q8, qt]
    simp
    omega
  rw [rdA, if_neg (by omega), if_neg (by rw [hh, hl]; simp; omega), if_neg (by rw [q8, hl]; omega), q4, q8, qd]
  have h1 := rd_frames (g := g) (base := 16 + baseL rs) (rs ++ more) tail [] 16 (16 == 16 + baseL rs) (fun r h => (List.mem_append.1 h).elim (hr r) (hm r))
  rw [List.length_nil] at h1
  rw [h1, metF_append, metF_base rs 16, metF_true, List.nil_append, baseL_append]
  simp [Nat.add_assoc]

theorem rdA_whole {g : Nat} {rs more : List (List Nat)} (hg : g < 4294967296) (hr : ∀ r ∈ rs, r.length ≤ 65536) (hm : ∀ r ∈ more, r.length ≤ 65536) (hlen : 16 + baseL rs + baseL more ≤ 1048576) :
    rdA (gener g rs ++ frames g rs.length more) = ⟨3, g, rs ++ more, 16 + baseL rs + baseL more⟩ := by
  have h := rdA_gen (tail := []) hg hr hm (by simpa using hlen)
  rw [List.append_nil] at h
  rw [h, rd, dif_pos (by simp)]
  rfl
end Jn
