import Derived.Test.YtdoeebbcieiimaaG
namespace Go.Proofs.Ytdoeebbcieiimaa
open Go.ChangeShapes Go.WideShapes Go.ChangeAt Go.RowKit
set_option maxHeartbeats 400000
set_option maxRecDepth 100000

def lenOfPk (h : Hd) (B : List Nat) : Nat := 20 + h.opts.length + B.length

def builtL (h : Hd) (B : List Nat) : List Nat := if refE h B.length = 0 then hdBytes h (lenOfPk h B) (M.csum (hdBytes h (lenOfPk h B) 0)) ++ B else []

theorem refE_ok {h : Hd} {nb : Nat} (e : refE h nb = 0) : M.area h.opts = true ∧ M.pieceOk h.off nb h.mf = true ∧ 20 + h.opts.length + nb ≤ 65535 := by
  unfold refE at e
  split at e
  · rename_i h1
    split at e
    · rename_i h2
      split at e
      · rename_i h3; exact ⟨h1, h2, h3⟩
      · cases e
    · cases e
  · cases e

theorem area_len {o : List Nat} (h : M.area o = true) : o.length ≤ 40 ∧ o.length % 4 = 0 := by
  unfold M.area at h; simp at h; exact h.1

theorem piece_off {off : Int} {n : Nat} {m : Bool} (h : M.pieceOk off n m = true) : ∃ f : Nat, off = (f : Int) ∧ f ≤ 65528 ∧ f % 8 = 0 := by
  unfold M.pieceOk at h; simp at h
  exact ⟨off.toNat, by omega, by omega, by omega⟩

theorem hdBytes_ok {h : Hd} (hok : h.Ok) (ho : ∀ x ∈ h.opts, x < 256) (hl : h.opts.length ≤ 40) {f : Nat} (hf : h.off = (f : Int)) (hf1 : f ≤ 65528) {len sum : Nat} (h1 : len < 65536) (h2 : sum < 65536) : ∀ x ∈ hdBytes h len sum, x < 256 := by
  obtain ⟨k1, k2, k3, k4, k5, k6, k7⟩ := hok
  have hW : flagW h.df h.mf h.off.toNat < 65536 := by rw [hf, Int.toNat_natCast]; unfold flagW; split <;> split <;> omega
  generalize hw : flagW h.df h.mf h.off.toNat = W at *
  intro x hx
  unfold hdBytes at hx
  rw [hw, List.mem_append] at hx
  rcases hx with hx | hx
  · simp only [List.mem_cons, List.not_mem_nil, or_false] at hx
    rcases hx with rfl | rfl | rfl | rfl | rfl | rfl | rfl | rfl | rfl | rfl | rfl | rfl | rfl | rfl | rfl | rfl | rfl | rfl | rfl | rfl <;> omega
  · exact ho x hx

theorem hdBytes_len (h : Hd) (len sum : Nat) : (hdBytes h len sum).length = 20 + h.opts.length := by
  unfold hdBytes; rw [List.length_append]; rfl

theorem seesBB_one {w : World} {n : Nat} (hn : w.heap.size = n) (v : Value) (L : List Nat) (hv : SeesB w v L) (t : TypeId) : SeesBB (w.alloc (.cells #[v] t)) (.slice (some ⟨n, 0, none⟩) 1 1) [L] := by
  subst hn
  refine ⟨some ⟨w.heap.size, 0, none⟩, 1, rfl, by simp, by unfold maxLen; omega, fun j hj => ⟨w.heap.size, 0, v, rfl, by simp, ?_, ?_⟩⟩
  · match j, hj with
    | 0, _ => simp
  · match j, hj with
    | 0, _ => exact hv.below ((Below.refl _ _).alloc (Nat.le_refl _) _)

theorem ret_two {a b : Value} {k : IntKind} {i j : Int} (h : i = j) (g : a = b) : Ending.returned (.tuple #[a, .int k i]) = .returned (.tuple #[b, .int k j]) := by rw [h, g]

set_option maxHeartbeats 1000000 in
theorem build_ref (h : Hd) (vo vb : Value) (B : List Nat) (w : World) (hok : h.Ok) (hvo : SeesB w vo h.opts) (hvb : SeesB w vb B) (hB : B.length ≤ 4611686018427387904) :
    Calls Try.prog 45 #[.agg (pkCells h vo vb)] w fun e w' => ∃ v', e = .returned (.tuple #[v', .int .i64 (refE h B.length)]) ∧ OwnB w' w.heap.size v' (builtL h B) ∧ Below w.heap.size w w' := by
  have hb1 : Below w.heap.size w (w.alloc (.cells (pkCells h vo vb) 29)) := (Below.refl _ _).alloc (Nat.le_refl _) _
  have HRF := hid (refused_any h vo vb B _ hok (hvo.below hb1) (hvb.below hb1) hB)
  have HBK : Hid (∀ u, Below (w.alloc (.cells (pkCells h vo vb) 29)).heap.size (w.alloc (.cells (pkCells h vo vb) 29)) u → u.heap[w.heap.size]? = some (.cells (pkCells h vo vb) 29)) := fun u hu => by
    rw [hu.block w.heap.size (by simp)]
    exact heap_alloc_new w _
  obtain ⟨R, hR⟩ : ∃ R, R = refE h B.length := ⟨_, rfl⟩
  have HR := hid hR
  rw [← hR] at HRF ⊢
  obtain ⟨LL, hLL⟩ : ∃ LL, LL = builtL h B := ⟨_, rfl⟩
  have HLL := hid hLL
  rw [← hLL]
  clear hR hLL
  obtain ⟨ao, n, cap, rfl, HN, hn1, hn2⟩ := hvo.shape
  obtain ⟨ab, nb, capb, rfl, HNB, hnb1, hnb2⟩ := hvb.shape
  unfold maxLen at hn2 hnb2
  have HVO := hid hvo
  have HVB := hid hvb
  have HB1 := hid hb1
  clear hvo hvb hb1 hB
  have HPK : Hid (pkCells h (.slice ao n cap) (.slice ab nb capb) = pkCells h (.slice ao n cap) (.slice ab nb capb)) := rfl
  by_cases hz : R = 0
  · obtain ⟨hA, hP, hL⟩ := refE_ok (HR.out ▸ hz : refE h B.length = 0)
    have hol := (area_len hA).1
    obtain ⟨f, hf, hf1, _⟩ := piece_off hP
    rw [← HN.out, ← HNB.out] at hL
    have hn40 : n ≤ 40 := by have := HN.out; omega
    have HLE : Hid (LL = hdBytes h (20 + n + nb) (M.csum (hdBytes h (20 + n + nb) 0)) ++ B) := by
      unfold Hid; rw [HLL.out]; unfold builtL; rw [if_pos (HR.out ▸ hz : refE h B.length = 0)]; unfold lenOfPk; rw [HN.out, HNB.out]
    have HH : Hid (∀ u, SeesB u (.slice ao n cap) h.opts → ∀ i s, i = ((20 + n + nb : Nat) : Int) → s < 65536 → Calls Try.prog 74 #[.agg (hdCells h (.slice ao n cap)), .int .i64 i, .int .u16 ((s : Nat) : Int)] u fun e w' => ∃ v', e = .returned v' ∧ OwnB w' u.heap.size v' (hdBytes h (20 + n + nb) s) ∧ Below u.heap.size u w') :=
      fun u hu i s hi hs => header_any h _ i (20 + n + nb) s f u hok hi (by omega) hs hf hf1 hu hol
    have HOK : Hid (∀ s, s < 65536 → ∀ x ∈ hdBytes h (20 + n + nb) s, x < 256) := fun s hs => hdBytes_ok hok HVO.out.bytes hol hf hf1 (by omega) hs
    have HLN : Hid (∀ s, (hdBytes h (20 + n + nb) s).length = 20 + n) := fun s => by rw [hdBytes_len, HN.out]
    have HCS := M.csum_lt (hdBytes h (20 + n + nb) 0)
    clear hA hP hf hok HLL hol
    have HZ := hid hz
    clear hz
    rw [HZ.out] at HRF ⊢
    have HLD := hid (pk_load (HBK.out _ (Below.refl _ _)))
    go_enter Try.func45, Try.ntmps45
    go_wp2_with (first | (refine wpList_ld 29 ⟨w.heap.size, 0, none⟩ (.tmp 1) rfl rfl HLD.out rfl ?_) | fail)
    refine HRF.out.mono ?_
    rintro _ w2 ⟨rfl, hb2⟩
    have hk2 := HBK.out _ hb2
    have c9 : w2.cell? ⟨w.heap.size, 9, none⟩ = some (.slice ao n cap) := pk_at hk2 9 (by omega)
    have c10 : w2.cell? ⟨w.heap.size, 10, none⟩ = some (.slice ab nb capb) := pk_at hk2 10 (by omega)
    have HBW : Hid (∀ u, Below (w.alloc (.cells (pkCells h (.slice ao n cap) (.slice ab nb capb)) 29)).heap.size (w.alloc (.cells (pkCells h (.slice ao n cap) (.slice ab nb capb)) 29)) u → Below w.heap.size w u) := fun u hu => HB1.out.trans (hu.mono HB1.out.size)
    have HL2 := hid (pk_loadH hk2)
    clear hk2 HRF HLD
    go_wp2_with (first | (refine wpList_ld 27 ⟨w.heap.size, 0, none⟩ (.tmp 24) rfl rfl HL2.out rfl ?_) | fail)
    refine (HH.out w2 (HVO.out.below (HBW.out _ hb2)) _ 0 (by omega) (by omega)).mono ?_
    rintro _ w3 ⟨v3, rfl, hO3, hb3⟩
    have hs3 := hO3.sees (HOK.out 0 (by omega))
    have hb3' := hb2.trans (hb3.mono hb2.size)
    have HS3 := sum_ref _ _ _ (seesBB_one rfl _ _ hs3 22) (by simp [HLN.out]; omega)
    rw [show [hdBytes h (20 + n + nb) 0].flatten = hdBytes h (20 + n + nb) 0 by simp] at HS3
    obtain ⟨a3, n3, cap3, rfl, _, _, _⟩ := hs3.shape
    have HS3 := hid HS3
    generalize M.csum (hdBytes h (20 + n + nb) 0) = s at *
    clear hs3 hO3 HL2 c9 c10 hb2 hb3
    go_wp2_with fail
    refine HS3.out.mono ?_
    rintro _ w4 ⟨rfl, hb4⟩
    have hb4' := (hb3'.alloc hb3'.size (.cells #[.slice a3 n3 cap3] 22)).trans (hb4.mono (by have := hb3'.size; simp at this ⊢; omega))
    clear HS3 hb4 hb3'
    have hk4 := HBK.out _ hb4'
    have HL4 := hid (pk_loadH hk4)
    go_wp2_with (first | (refine wpList_ld 27 ⟨w.heap.size, 0, none⟩ (.tmp 31) rfl rfl HL4.out rfl ?_) | fail)
    refine (HH.out w4 (HVO.out.below (HBW.out _ hb4')) _ s (by omega) HCS).mono ?_
    rintro _ w5 ⟨v5, rfl, hO5, hb5⟩
    have HO5 := hid hO5
    have hsz := hb4'.size
    have HB4 := hid hb4'
    have HP1 := hid hsz
    clear hk4 HL4 hO5 hb4' hsz
    have HLX := hid (HLN.out s)
    generalize hdBytes h (20 + n + nb) s = X at *
    go_wp2_with fail
    go_loopw [8, 9] (fun t i wr => ∃ q : Nat, i = .int .i64 q ∧ q ≤ nb ∧ Hid (OwnB wr w4.heap.size t (X ++ B.take q)) ∧ Below w4.heap.size w4 wr) (fun _ i _ => nb - (intOf i).toNat)
    case atStart => exact ⟨0, rfl, by omega, by rw [List.take_zero, List.append_nil]; exact HO5, hb5⟩
    case round =>
      obtain ⟨q, rfl, hq, HO, hb⟩ := hrel
      have hbx := HB4.out.trans (hb.mono HB4.out.size)
      have c10 := (show _ = some (Value.slice ab nb capb) from pk_at (HBK.out _ hbx) 10 (by omega))
      by_cases hlt : q < nb
      · obtain ⟨ga, oa, x, rfl, hga, hca, hx, HX⟩ := (HVB.out.below (HBW.out _ hbx)).at q hlt
        have HF : Hid (X ++ (B.take q ++ [x]) = X ++ B.take (q + 1)) := by unfold Hid; rw [take_snoc HX.out]
        clear hbx
        go_wp2_with (at_builtin; refine wpList_append_bytes rfl _ _ rfl w4.heap.size _ _ rfl (HO.out.alloc _) _ [x] rfl (sees_one rfl x hx _) ?c1 ?c2 ?_)
        case c1 => have := HLX.out; have := HNB.out; rw [List.length_append, List.length_take]; simp only [List.length_cons, List.length_nil]; omega
        case c2 => have := hb.size; simp; omega
        intro v' w6 ho hb6
        rw [HF.out] at ho
        have HO6 := hid ho
        have hb7 := (hb.alloc hb.size _).trans hb6
        clear ho hb6 hca c10
        go_wp2_with fail
        go_roundw
        case rel => exact ⟨q + 1, by go_num, by omega, HO6, hb7⟩
        case measure => simp [intOf]; omega
      · have HE : Hid (X ++ B.take q = LL) := by
          unfold Hid; rw [HLE.out, List.take_of_length_le (by have := HNB.out; omega)]
        rw [HE.out] at HO
        have HBX := hid (HBW.out _ hbx)
        clear hbx
        go_wp2_with fail
        go_ret2
        exact ⟨_, rfl, HO.out.mono (by have := HP1.out; simp at this; omega), HBX.out⟩
  · have HE : Hid (LL = []) := by unfold Hid; rw [HLL.out]; unfold builtL; rw [if_neg (by rw [← HR.out]; exact hz)]
    have hq : (R != 0) = true := by simp [hz]
    clear hz
    have HLD := hid (pk_load (HBK.out _ (Below.refl _ _)))
    go_enter Try.func45, Try.ntmps45
    go_wp2_with (first | (refine wpList_ld 29 ⟨w.heap.size, 0, none⟩ (.tmp 1) rfl rfl HLD.out rfl ?_) | fail)
    refine HRF.out.mono ?_
    rintro _ w2 ⟨rfl, hb2⟩
    go_wp2_with fail
    go_ret2
    exact ⟨.slice none 0 0, rfl, by rw [HE.out]; exact ownB_nil _ _, HB1.out.trans (hb2.mono HB1.out.size)⟩
end Go.Proofs.Ytdoeebbcieiimaa
