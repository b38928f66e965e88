import Derived.Test.YtenhofbhkchjoabDoorB
namespace Go.Proofs.YtenhofbhkchjoabDoor
open Go.ChangeShapes Go.WideShapes Go.ChangeAt Go.RowKit
set_option maxHeartbeats 400000

/-- The table of powers of ten lies in the world. -/
def Tab (w : World) : Prop := Lib.TabIs Tryd.prog w "internal/strconv.uint64pow10" .u64 Lib.pow10Tab ∧ ∀ g, Tryd.prog.globalNamed "internal/strconv.uint64pow10" = some g → g < w.heap.size

theorem Tab.below {w w' : World} (h : Tab w) (hb : Below w.heap.size w w') : Tab w' := by
  obtain ⟨h1, h2⟩ := h
  refine ⟨?_, fun g hg => Nat.lt_of_lt_of_le (h2 g hg) hb.size⟩
  unfold Lib.TabIs World.var? at *
  cases e : Tryd.prog.globalNamed "internal/strconv.uint64pow10" with
  | none => rw [e] at h1; cases h1
  | some g =>
    rw [e] at h1
    simp only [Option.bind_some] at *
    rw [hb.block g (h2 g e)]; exact h1

theorem below_growN (w : World) (k : Nat) (os : Array Obj) : Below w.heap.size w (Sort.grow (w.drewN k) os) :=
  ⟨rfl, rfl, rfl, by simp [Sort.grow, World.drewN], fun i hi => by show ((w.drewN k).heap ++ os)[i]? = _; rw [Array.getElem?_append_left (by exact hi)]; rfl⟩

theorem itoa_any (n : Int) (k : Nat) (hn : n = (k : Int)) (hk : k ≤ 9223372036854775807) (w : World) (ht : Tab w) :
    Calls Tryd.prog 46 #[.int .i64 n] w fun e w' => e = .returned (.string ⟨(Lib.decDigits k).toArray⟩) ∧ Below w.heap.size w w' := by
  subst hn
  have h := Any.strconv_Itoa Tryd.layItoa (k : Int) (by omega) (by omega) w ht.1
  change Calls Tryd.prog 46 _ _ _ at h
  refine h.mono ?_
  rintro e w' ⟨rfl, q, os, rfl⟩
  refine ⟨?_, below_growN w q os⟩
  have : Lib.itoa (k : Int) = Lib.decDigits k := by
    unfold Lib.itoa; rw [if_neg (by omega)]; simp
  rw [this]

def notc (c : Nat) (x : UInt8) : Bool := decide (x.toNat ≠ c)

def upTo (l : List UInt8) (at0 c : Nat) : Nat := at0 + ((l.drop at0).takeWhile (notc c)).length

theorem until_any (s : ByteArray) (at0 c : Nat) (w : World) (hs : s.size ≤ maxLen) (ha : at0 ≤ s.size) :
    Calls Tryd.prog 38 #[.string s, .int .i64 at0, .int .u8 c] w fun e w' => e = .returned (.int .i64 ((upTo s.data.toList at0 c : Nat) : Int)) ∧ w' = w := by
  unfold maxLen at hs
  have HL : Hid (s.data.toList.length = s.size) := by simp [Hid]
  go_enter Tryd.func38, Tryd.ntmps38
  go_wp2
  go_loop [1] (fun i => ∃ k : Nat, i = .int .i64 ((at0 + k : Nat) : Int) ∧ at0 + k ≤ s.size ∧ Hid ((s.data.toList.drop at0).takeWhile (notc c) = ((s.data.toList.drop at0).take k) ++ ((s.data.toList.drop (at0 + k)).takeWhile (notc c)))) (fun i => s.size - (intOf i).toNat)
  case atStart => exact ⟨0, by simp, by omega, by simp [Hid]⟩
  case round =>
    obtain ⟨k, rfl, hk, HT⟩ := hrel
    obtain ⟨j, hj⟩ : ∃ j, j = at0 + k := ⟨_, rfl⟩
    rw [← hj] at hk HT ⊢
    by_cases hlt : j < s.size
    · have HD : Hid (s.data.toList.drop j = s[j] :: s.data.toList.drop (j + 1)) := List.drop_eq_getElem_cons (by rw [HL.out]; exact hlt)
      by_cases hc : (s[j]'hlt).toNat = c
      · have hq : (((s[j]'hlt).toNat : Int) != (c : Int)) = false := by simp [hc]
        have HE : Hid (upTo s.data.toList at0 c = j) := by
          unfold Hid upTo; rw [HT.out, HD.out, List.takeWhile_cons_of_neg (by simp [notc, hc]), List.append_nil, List.length_take, List.length_drop, HL.out]; omega
        have HJ := hid hj
        clear hc hj
        go_wp2
        go_ret
        exact ⟨ret_int (by rw [HE.out]), rfl⟩
      · have hq : (((s[j]'hlt).toNat : Int) != (c : Int)) = true := by rw [bne_iff_ne]; omega
        have HN : Hid ((s.data.toList.drop at0).takeWhile (notc c) = ((s.data.toList.drop at0).take (k + 1)) ++ ((s.data.toList.drop (at0 + (k + 1))).takeWhile (notc c))) := by
          have h1 := HT.out
          rw [HD.out, List.takeWhile_cons_of_pos (by simp [notc, hc])] at h1
          unfold Hid; rw [h1]
          have h2 : (s.data.toList.drop at0).take (k + 1) = (s.data.toList.drop at0).take k ++ [s[j]] := by
            rw [List.take_add_one, List.getElem?_drop, ← hj, List.getElem?_eq_getElem (by rw [HL.out]; exact hlt)]; rfl
          rw [h2, show at0 + (k + 1) = j + 1 from by omega]; simp
        have HJ := hid hj
        clear hc hj
        go_wp2
        go_round
        case rel => exact ⟨k + 1, by rw [show at0 + (k + 1) = j + 1 from by have := HJ.out; omega]; go_num, by have := HJ.out; omega, HN⟩
        case measure => simp [intOf]; omega
    · have HE : Hid (upTo s.data.toList at0 c = j) := by
        unfold Hid upTo; rw [HT.out, show s.data.toList.drop j = [] from List.drop_eq_nil_of_le (by rw [HL.out]; omega)]
        simp only [List.takeWhile_nil, List.append_nil]
        rw [List.length_take, List.length_drop, HL.out]; omega
      have HJ := hid hj
      clear hj
      go_wp2
      go_ret
      exact ⟨ret_int (by rw [HE.out]), rfl⟩

def numI (o : Option Nat) : Int := match o with | some n => (n : Int) | none => -1

theorem number_any (s : ByteArray) (most : Nat) (w : World) (hs : s.size ≤ maxLen) (hm : most < 256) (ht : Tab w) :
    Calls Tryd.prog 39 #[.string s, .int .i64 most] w fun e w' => e = .returned (.int .i64 (numI (S.num s.data.toList most))) ∧ Below w.heap.size w w' := by
  unfold maxLen at hs
  have HL : Hid (s.data.toList.length = s.size) := by simp [Hid]
  have HTB := hid ht
  clear ht
  by_cases h0 : s.size = 0
  · have HN : Hid (numI (S.num s.data.toList most) = -1) := by
      unfold Hid; rw [S.num_none hm]; · rfl
      intro n hn e
      have f := (S.dec_facts (n := n) (by omega)).2.2.1
      rw [e, HL.out] at f; omega
    have hq : ((s.size : Int) == 0) = true := by simp [h0]
    clear h0
    go_enter Tryd.func39, Tryd.ntmps39
    go_wp2
    go_ret
    exact ⟨ret_int HN.out.symm, Below.refl _ _⟩
  · have hq : ((s.size : Int) == 0) = false := by rw [beq_eq_false_iff_ne]; omega
    by_cases h3 : 3 < s.size
    · have HN : Hid (numI (S.num s.data.toList most) = -1) := by
        unfold Hid; rw [S.num_none hm]; · rfl
        intro n hn e
        have f := (S.dec_facts (n := n) (by omega)).2.2.2.1
        rw [e, HL.out] at f; omega
      go_enter Tryd.func39, Tryd.ntmps39
      go_wp2
      go_ret
      exact ⟨ret_int HN.out.symm, Below.refl _ _⟩
    · go_enter Tryd.func39, Tryd.ntmps39
      go_wp2_with fail
      go_loopw [5] (fun i wr => ∃ k : Nat, i = .int .i64 k ∧ k ≤ most + 1 ∧ Hid (∀ m, m < k → Lib.decDigits m ≠ s.data.toList) ∧ Below w.heap.size w wr) (fun i _ => most + 1 - (intOf i).toNat)
      case atStart => exact ⟨0, rfl, by omega, fun m hm => by omega, Below.refl _ _⟩
      case round =>
        obtain ⟨k, rfl, hk, HK, hbr⟩ := hrel
        by_cases hkm : k ≤ most
        · go_wp2_with fail
          refine (itoa_any _ k rfl (by omega) _ (HTB.out.below hbr)).mono ?_
          rintro e w1 ⟨rfl, hb1⟩
          by_cases heq : Lib.decDigits k = s.data.toList
          · have HN : Hid (numI (S.num s.data.toList most) = (k : Int)) := by
              unfold Hid; rw [(S.num_some hm).2 ⟨hkm, heq⟩]; rfl
            have hq2 : (Lib.decDigits k == s.toList) = true := by
              rw [ByteArray.toList_eq]; simp [heq]
            clear heq
            go_wp2_with fail
            go_ret
            exact ⟨ret_int HN.out.symm, hbr.trans (hb1.mono hbr.size)⟩
          · have hq2 : (Lib.decDigits k == s.toList) = false := by
              rw [ByteArray.toList_eq]; simpa using heq
            have HK2 : Hid (∀ m, m < k + 1 → Lib.decDigits m ≠ s.data.toList) := by
              intro m hm
              rcases Nat.lt_or_ge m k with h | h
              · exact HK.out m h
              · obtain rfl : m = k := by omega
                exact heq
            clear heq
            go_wp2_with fail
            go_roundw
            case rel => exact ⟨k + 1, by go_num, by omega, HK2, hbr.trans (hb1.mono hbr.size)⟩
            case measure => simp [intOf]; omega
        · have HN : Hid (numI (S.num s.data.toList most) = -1) := by
            unfold Hid; rw [S.num_none hm (fun n hn => HK.out n (by omega))]; rfl
          go_wp2_with fail
          go_ret
          exact ⟨ret_int HN.out.symm, hbr⟩
end Go.Proofs.YtenhofbhkchjoabDoor
