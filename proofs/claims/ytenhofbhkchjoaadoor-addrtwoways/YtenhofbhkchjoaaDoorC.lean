import Derived.Test.YtenhofbhkchjoaaDoorB
namespace Go.Proofs.YtenhofbhkchjoaaDoor
open Go.ChangeShapes Go.WideShapes Go.ChangeAt Go.RowKit
set_option maxHeartbeats 400000

/-- The table of powers of ten lies in the world. -/
def Tab (w : World) : Prop := Lib.TabIs Tryd.prog w "internal/strconv.uint64pow10" .u64 Lib.pow10Tab ∧ ∀ g, Tryd.prog.globalNamed "internal/strconv.uint64pow10" = some g → g < w.heap.size

theorem Tab.below {w w' : World} (h : Tab w) (hb : Below w.heap.size w w') : Tab w' := by
  obtain ⟨h1, h2⟩ := h
  refine ⟨?_, fun g hg => Nat.lt_of_lt_of_le (h2 g hg) hb.size⟩
  unfold Lib.TabIs World.var? at *
  cases e : Tryd.prog.globalNamed "internal/strconv.uint64pow10" with
  | none => rw [e] at h1; cases h1
  | some g =>
    rw [e] at h1
    simp only [Option.bind_some] at *
    rw [hb.block g (h2 g e)]; exact h1

theorem below_growN (w : World) (k : Nat) (os : Array Obj) : Below w.heap.size w (Sort.grow (w.drewN k) os) :=
  ⟨rfl, rfl, rfl, by simp [Sort.grow, World.drewN], fun i hi => by show ((w.drewN k).heap ++ os)[i]? = _; rw [Array.getElem?_append_left (by exact hi)]; rfl⟩

theorem itoa_any (n : Int) (k : Nat) (hn : n = (k : Int)) (hk : k ≤ 9223372036854775807) (w : World) (ht : Tab w) :
    Calls Tryd.prog 17 #[.int .i64 n] w fun e w' => e = .returned (.string ⟨(Lib.decDigits k).toArray⟩) ∧ Below w.heap.size w w' := by
  subst hn
  have h := Any.strconv_Itoa Tryd.layItoa (k : Int) (by omega) (by omega) w ht.1
  change Calls Tryd.prog 17 _ _ _ at h
  refine h.mono ?_
  rintro e w' ⟨rfl, q, os, rfl⟩
  refine ⟨?_, below_growN w q os⟩
  have : Lib.itoa (k : Int) = Lib.decDigits k := by
    unfold Lib.itoa; rw [if_neg (by omega)]; simp
  rw [this]

def notc (c : Nat) (x : UInt8) : Bool := decide (x.toNat ≠ c)

def upTo (l : List UInt8) (at0 c : Nat) : Nat := at0 + ((l.drop at0).takeWhile (notc c)).length

def numI (o : Option Nat) : Int := match o with | some n => (n : Int) | none => -1

end Go.Proofs.YtenhofbhkchjoaaDoor
