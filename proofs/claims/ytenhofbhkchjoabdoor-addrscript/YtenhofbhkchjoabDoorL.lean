import Derived.Test.YtenhofbhkchjoabDoorK
namespace Go.Proofs.YtenhofbhkchjoabDoor
open Go.ChangeShapes Go.WideShapes Go.ChangeAt Go.RowKit
set_option maxHeartbeats 400000

theorem and_255 (x : Nat) (hx : x < 4294967296) : bits .and .u32 (x : Int) 255 = ((x % 256 : Nat) : Int) := by
  have h := and_u32 x 8 hx (by omega)
  exact h

/-- The text of a number. -/
def dd (k : Nat) : ByteArray := ⟨(Lib.decDigits k).toArray⟩

theorem dd_size {k : Nat} (h : k < 256) : (dd k).size ≤ 3 := (S.dec_facts h).2.2.2.1

theorem octet_any (n : Int) (x k : Nat) (hn : n = (x : Int)) (hx : x < 4294967296) (hk : x % 256 = k) (w : World) (ht : Tab w) :
    Calls Tryd.prog 45 #[.int .u32 n] w fun e w' => e = .returned (.string (dd k)) ∧ Below w.heap.size w w' := by
  subst hn
  have hA := and_255 x hx
  rw [hk] at hA
  have hk2 : k < 256 := by omega
  have HTB := hid ht
  clear ht hk
  go_enter Tryd.func45, Tryd.ntmps45
  go_wp2_with fail
  refine (itoa_any _ k rfl (by omega) _ HTB.out).mono ?_
  rintro e w1 ⟨rfl, hb1⟩
  go_wp2_with fail
  go_ret
  exact ⟨rfl, hb1⟩

def dot : ByteArray := ⟨#[46]⟩
/-- A dotted quad. -/
def fmtA (a : Nat) : ByteArray := dd (a / 16777216 % 256) ++ dot ++ dd (a / 65536 % 256) ++ dot ++ dd (a / 256 % 256) ++ dot ++ dd (a % 256)

theorem fmtA_size (a : Nat) : (fmtA a).size ≤ 15 := by
  have h1 := dd_size (k := a / 16777216 % 256) (by omega)
  have h2 := dd_size (k := a / 65536 % 256) (by omega)
  have h3 := dd_size (k := a / 256 % 256) (by omega)
  have h4 := dd_size (k := a % 256) (by omega)
  have h5 : dot.size = 1 := rfl
  unfold fmtA
  simp only [ByteArray.size_append]
  omega

theorem ret_str {a b : ByteArray} (h : a = b) : Ending.returned (.string a) = .returned (.string b) := by rw [h]

theorem format_any (a : Nat) (ha : a < 4294967296) (w : World) (ht : Tab w) :
    Calls Tryd.prog 18 #[.int .u32 (a : Int)] w fun e w' => e = .returned (.string (fmtA a)) ∧ Below w.heap.size w w' := by
  have HTB := hid ht
  clear ht
  go_enter Tryd.func18, Tryd.ntmps18
  go_wp2_with fail
  refine (octet_any _ (a / 16777216) (a / 16777216 % 256) (by simp) (by omega) rfl _ HTB.out).mono ?_
  rintro e w1 ⟨rfl, hb1⟩
  have hz1 := dd_size (k := a / 16777216 % 256) (by omega)
  generalize hs1 : dd (a / 16777216 % 256) = s1 at hz1 ⊢
  have HS1 := hid hs1
  clear hs1
  go_wp2_with fail
  refine (octet_any _ (a / 65536) (a / 65536 % 256) (by simp) (by omega) rfl _ (HTB.out.below hb1)).mono ?_
  rintro e w2 ⟨rfl, hb2⟩
  have hz2 := dd_size (k := a / 65536 % 256) (by omega)
  generalize hs2 : dd (a / 65536 % 256) = s2 at hz2 ⊢
  have HS2 := hid hs2
  clear hs2
  have hb02 := hb1.trans (hb2.mono hb1.size)
  go_wp2_with fail
  refine (octet_any _ (a / 256) (a / 256 % 256) (by simp) (by omega) rfl _ (HTB.out.below hb02)).mono ?_
  rintro e w3 ⟨rfl, hb3⟩
  have hz3 := dd_size (k := a / 256 % 256) (by omega)
  generalize hs3 : dd (a / 256 % 256) = s3 at hz3 ⊢
  have HS3 := hid hs3
  clear hs3
  have hb03 := hb02.trans (hb3.mono hb02.size)
  go_wp2_with fail
  refine (octet_any _ a (a % 256) (by simp) (by omega) rfl _ (HTB.out.below hb03)).mono ?_
  rintro e w4 ⟨rfl, hb4⟩
  have hz4 := dd_size (k := a % 256) (by omega)
  generalize hs4 : dd (a % 256) = s4 at hz4 ⊢
  have HS4 := hid hs4
  clear hs4
  go_wp2_with fail
  go_ret
  refine ⟨ret_str ?_, hb03.trans (hb4.mono hb03.size)⟩
  unfold fmtA
  rw [HS1.out, HS2.out, HS3.out, HS4.out]; rfl

/-- The end of a dotted quad: k dots. -/
def sfx (a : Nat) : Nat → ByteArray
  | 0 => dd (a % 256)
  | k + 1 => dd (a / 256 ^ (k + 1) % 256) ++ dot ++ sfx a k

theorem sfx_size (a k : Nat) : (sfx a k).size ≤ 4 * k + 3 := by
  induction k with
  | zero => exact dd_size (by omega)
  | succ k ih =>
    have h1 := dd_size (k := a / 256 ^ (k + 1) % 256) (by omega)
    have h5 : dot.size = 1 := rfl
    unfold sfx
    simp only [ByteArray.size_append]
    omega

theorem sfx_fmt (a : Nat) : sfx a 3 = fmtA a := by
  simp only [sfx, fmtA]
  rw [show 256 ^ (2 + 1) = 16777216 from rfl, show 256 ^ (1 + 1) = 65536 from rfl, show 256 ^ (0 + 1) = 256 from rfl]
  simp only [ByteArray.append_assoc]

theorem refFormat_any (a : Nat) (ha : a < 4294967296) (w : World) (ht : Tab w) :
    Calls Tryd.prog 19 #[.int .u32 (a : Int)] w fun e w' => e = .returned (.string (fmtA a)) ∧ Below w.heap.size w w' := by
  have HTB := hid ht
  clear ht
  go_enter Tryd.func19, Tryd.ntmps19
  go_wp2_with fail
  refine (itoa_any _ (a % 256) (by simp) (by omega) _ HTB.out).mono ?_
  rintro e w1 ⟨rfl, hb1⟩
  have hs0 : sfx a 0 = ⟨(Lib.decDigits (a % 256)).toArray⟩ := rfl
  rw [← hs0]
  clear hs0
  go_wp2_with fail
  go_loopw [3, 4, 5] (fun n s i wr => ∃ k x : Nat, i = .int .i64 k ∧ k ≤ 3 ∧ n = .int .i64 (x : Int) ∧ x < 4294967296 ∧ Hid (x = a / 256 ^ k) ∧ s = .string (sfx a k) ∧ Below w.heap.size w wr) (fun _ _ i _ => 3 - (intOf i).toNat)
  case atStart => exact ⟨0, a, rfl, by omega, rfl, ha, by simp [Hid], rfl, hb1⟩
  case round =>
    obtain ⟨k, x, rfl, hk, rfl, hx, HX, rfl, hbr⟩ := hrel
    by_cases hk3 : k < 3
    · go_wp2_with fail
      refine (itoa_any _ (x / 256 % 256) (by simp) (by omega) _ (HTB.out.below hbr)).mono ?_
      rintro e w2 ⟨rfl, hb2⟩
      have HS : Hid (sfx a (k + 1) = ⟨(Lib.decDigits (x / 256 % 256)).toArray⟩ ++ ⟨#[46]⟩ ++ sfx a k) := by
        have e1 : x / 256 = a / 256 ^ (k + 1) := by rw [HX.out, Nat.div_div_eq_div_mul, Nat.pow_succ]
        unfold Hid
        rw [e1]; rfl
      have hz1 := sfx_size a k
      have hz2 : (⟨(Lib.decDigits (x / 256 % 256)).toArray⟩ : ByteArray).size ≤ 3 := dd_size (k := x / 256 % 256) (by omega)
      have HX2 : Hid (x / 256 = a / 256 ^ (k + 1)) := by unfold Hid; rw [HX.out, Nat.div_div_eq_div_mul, Nat.pow_succ]
      generalize (⟨(Lib.decDigits (x / 256 % 256)).toArray⟩ : ByteArray) = sd at HS hz2 ⊢
      generalize sfx a k = sk at HS hz1 ⊢
      go_wp2_with fail
      go_roundw
      case rel => exact ⟨k + 1, x / 256, by go_num, by omega, by go_num, by omega, HX2, by rw [HS.out], hbr.trans (hb2.mono hbr.size)⟩
      case measure => simp [intOf]; omega
    · obtain rfl : k = 3 := by omega
      go_wp2_with fail
      go_ret
      exact ⟨ret_str (sfx_fmt a), hbr⟩

/-- A world behind calls that made memory and wrote none of the elder. -/
structure Beh (w : World) where
  wd : World
  ok : Below w.heap.size w wd

instance (w : World) : Nonempty (Beh w) := ⟨⟨w, Below.refl _ _⟩⟩

theorem wp_region_beh {P : Program} {id : Nat} {Q : Exit → Act → World → Prop} {a : Act} {w : World} {l : List Oper} (hm : P.follows .mixedOrders = true) (hB : Region.lexB .any l.toArray = true)
    (h : wpQuiet P l.toArray (fun w' => ∃ u : Beh w, w' = u.wd) (fun a' => ∀ w', (∃ u : Beh w, w' = u.wd) → Q .normal a' w') l a) : (Code.region id l.toArray true).wp P Q a w :=
  wp_region_quiet (C := fun w' => ∃ u : Beh w, w' = u.wd) hm hB ⟨⟨_, below_drewN (Below.refl _ _) 1⟩, rfl⟩ (by simpa using h)

theorem Calls.beh {P : Program} {f : FuncId} {args : Array Value} {w : World} {u : Beh w} {v : Value}
    (h : Calls P f args u.wd fun e w' => e = .returned v ∧ Below u.wd.heap.size u.wd w') : Calls P f args u.wd fun e w'' => e = .returned v ∧ ∃ u' : Beh w, w'' = u'.wd :=
  h.mono fun _ w' ⟨he, hb⟩ => ⟨he, ⟨w', u.ok.trans (hb.mono u.ok.size)⟩, rfl⟩

theorem Beh.two {w : World} {b : Nat} {x y : Value} {T : TypeId} (h : w.heap[b]? = some (.cells #[x, y] T (0, 0))) :
    (∀ u : Beh w, u.wd.cell? ⟨b, 0, none⟩ = some x) ∧ (∀ u : Beh w, u.wd.cell? ⟨b, 1, none⟩ = some y) := by
  have hlt : b < w.heap.size := (row_two h).2.2.2.2
  constructor <;> intro u
  · exact (row_two ((u.ok.block b hlt).trans h)).1
  · exact (row_two ((u.ok.block b hlt).trans h)).2.1

/-- FormatPrefix's answer. -/
def ansFP (x : Nat) (n : Int) : Value := if err (x, n) = 0 then .tuple #[.string (fmtA x ++ ⟨#[47]⟩ ++ dd n.toNat), .int .i64 0] else .tuple #[.string ⟨#[]⟩, .int .i64 (err (x, n))]

theorem formatPrefix_any (x : Nat) (n : Int) (hx : x < 4294967296) (w : World) (ht : Tab w) :
    Calls Tryd.prog 20 #[.agg #[.int .u32 (x : Int), .int .i64 n]] w fun e w' => e = .returned (ansFP x n) ∧ Below w.heap.size w w' := by
  have HTB := hid ht
  clear ht
  by_cases he : err (x, n) = 0
  · have HA : Hid (ansFP x n = .tuple #[.string (fmtA x ++ ⟨#[47]⟩ ++ dd n.toNat), .int .i64 0]) := if_pos he
    obtain ⟨kk, hk1, hk2, _⟩ := err_ok he
    have hn0 : 0 ≤ n ∧ n ≤ 32 := by simp at hk2; omega
    have HE := hid he
    clear hk2 hk1 he
    go_enter Tryd.func20, Tryd.ntmps20
    go_wp2_with fail
    refine (check_any x n _ hx).mono ?_
    rintro e w1 ⟨rfl, hb1⟩
    rw [HE.out]
    have r1 : w1.heap[w.heap.size]? = some (.cells #[.int .u32 x, .int .i64 n] 31) := by
      rw [hb1.block _ (by simp)]; exact heap_alloc_new w _
    obtain ⟨c0, c1, _, _, hlt1⟩ := row_two r1
    obtain ⟨q0, q1⟩ := Beh.two r1
    have hb01 : Below w.heap.size w w1 := ((Below.refl _ _).alloc (Nat.le_refl _) _).trans (hb1.mono (by simp))
    have hz := fmtA_size x
    have hz3 : (dd n.toNat).size ≤ 3 := dd_size (by omega)
    have F1 : ∀ u : Beh w1, Calls Tryd.prog 18 #[.int .u32 (x : Int)] u.wd fun e w' => e = .returned (.string (fmtA x)) ∧ ∃ u' : Beh w1, w' = u'.wd :=
      fun u => Calls.beh (format_any x hx _ (HTB.out.below (hb01.trans (u.ok.mono hb01.size))))
    have F2 : ∀ u : Beh w1, Calls Tryd.prog 46 #[.int .i64 n] u.wd fun e w' => e = .returned (.string (dd n.toNat)) ∧ ∃ u' : Beh w1, w' = u'.wd :=
      fun u => Calls.beh (itoa_any n n.toNat (by omega) (by omega) _ (HTB.out.below (hb01.trans (u.ok.mono hb01.size))))
    generalize fmtA x = fx at HA hz F1 ⊢
    generalize dd n.toNat = sd at HA hz3 F2 ⊢
    have G1 := hid F1
    have G2 := hid F2
    clear F1 F2 r1
    go_wp2_with fail
    refine wp_region_beh (by kernel_rfl) (by kernel_rfl) ?_
    repeat (go_big_quiet_step (first | (go_at_call 18; exact G1.out _) | (go_at_call 46; exact G2.out _)))
    refine wpQuiet_nil ?_
    rintro _ ⟨u, rfl⟩
    have hbu := hb01.trans (u.ok.mono hb01.size)
    go_wp2_with fail
    go_ret2
    exact ⟨by rw [HA.out]; rfl, hbu⟩
  · have HA : Hid (ansFP x n = .tuple #[.string ⟨#[]⟩, .int .i64 (err (x, n))]) := if_neg he
    have hq : (err (x, n) != 0) = true := by rw [bne_iff_ne]; exact he
    clear he
    go_enter Tryd.func20, Tryd.ntmps20
    go_wp2_with fail
    refine (check_any x n _ hx).mono ?_
    rintro e w1 ⟨rfl, hb1⟩
    generalize err (x, n) = ee at hq HA ⊢
    have hb01 : Below w.heap.size w w1 := ((Below.refl _ _).alloc (Nat.le_refl _) _).trans (hb1.mono (by simp))
    go_wp2_with fail
    go_ret2
    exact ⟨by rw [HA.out]; rfl, hb01⟩
end Go.Proofs.YtenhofbhkchjoabDoor
