/-
  UnderFrame: the listed packet gets other bytes.
-/
import Derived.Test.YtaelfhjhinfikabDXB
namespace Go.Proofs.Ytaelfhjhinfikab
open Go.ChangeShapes Go.WideShapes Go.ChangeAt Go.RowKit Me
set_option maxHeartbeats 2000000
set_option maxRecDepth 100000

theorem ec_setU (L : List En) (i : Nat) (e x : En) (h : L[i]? = some x) (ha : e.ad = x.ad) : ec (L.set i e) = (ec L).set (i * 2 + 1) e.u := by
  induction L generalizing i with
  | nil => simp at h
  | cons p L ih =>
    cases i with
    | zero =>
      simp only [List.getElem?_cons_zero, Option.some.injEq] at h
      subst h
      simp [ec, ha]
    | succ i => rw [List.set_cons_succ, ec_cons, ec_cons, ih i (by simpa using h), show (i + 1) * 2 = i * 2 + 1 + 1 by omega]; simp

theorem Fl.putU {w : World} {g n cap : Nat} {E : List En} (h : Fl w (.slice (some ⟨g, 0, none⟩) n cap) E) {i : Nat} (e x : En) (hx : E[i]? = some x) (ha : e.ad = x.ad) (ho : OwnB w 0 e.u e.bs) (hok : e.bs.length ≤ 65535 ∧ ∀ x ∈ e.bs, x < 256)
    (hne : ∀ x ∈ E, ∀ k, x.u.ownBlock = some k → e.u.ownBlock ≠ some k) : Fl (w.setCell ⟨g, i * 2 + 1, none⟩ e.u) (.slice (some ⟨g, 0, none⟩) n cap) (E.set i e) := by
  have hk : Keeps (fun k => k = g) w (w.setCell ⟨g, i * 2 + 1, none⟩ e.u) := Keeps.set (S := fun k => k = g) (Keeps.refl _ _) ⟨g, i * 2 + 1, none⟩ rfl _
  have hn : n = E.length := by
    obtain ⟨a, c, hv, -⟩ := row_len h.row
    simp at hv
    exact hv.2.1
  subst hn
  refine ⟨?_, ?_, ?_, ?_⟩
  · rw [List.length_set, ec_setU E i e x hx ha]
    exact row_put h.row _ _
  · intro y hy
    rcases List.mem_or_eq_of_mem_set hy with hy1 | rfl
    · exact (h.own y hy1).keeps hk fun k h1 h2 => h.ne (k := g) rfl y hy1 (by rw [h1, h2])
    · exact ho.keeps hk fun k h1 h2 => row_ne h.row ho (by decide) (k := g) rfl (by rw [h1, h2])
  · intro y hy
    rcases List.mem_or_eq_of_mem_set hy with hy1 | rfl
    · exact h.ok y hy1
    · exact ⟨by rw [ha]; exact (h.ok x (List.mem_of_getElem? hx)).1, hok⟩
  · rw [List.pairwise_iff_getElem]
    intro a b ha hb hab k hk1
    rw [List.length_set] at ha hb
    by_cases h1 : i = a
    · subst h1
      rw [List.getElem_set_self] at hk1
      rw [List.getElem_set_ne (by omega)]
      exact fun e2 => hne _ (List.getElem_mem hb) k e2 hk1
    · rw [List.getElem_set_ne h1] at hk1
      by_cases h2 : i = b
      · subst h2
        rw [List.getElem_set_self]
        exact hne _ (List.getElem_mem ha) k hk1
      · rw [List.getElem_set_ne h2]
        exact List.pairwise_iff_getElem.1 h.dis a b ha hb hab k hk1

theorem Fr.mend {w0 w w6 : World} {K K1 : Nat → Prop} {pb m b g n oc ea gg gn gc r k z B : Nat} {S0 S S4 L : List Pk} {row : Array Value} {v vn u : Value} {E : List En} {eb : List Nat}
    (h : Fr w0 K K1 w pb m S0 S b row (.slice (some ⟨g, 0, none⟩) n oc) E v L) (hb6 : Below w.heap.size w w6) (he : E[r]? = some ⟨ea, eb, u⟩) (ho : OwnB w6 w.heap.size (.slice (some ⟨gg, 0, none⟩) gn gc) eb) (hz : z < 256) (hN : SeesS (fun k => B ≤ k) w vn S4) (hB : g < B) :
    (w6.setCell ⟨gg, k, none⟩ (.int .u8 (z : Int))).heap[b]? = some (.cells row 35 (0, 0)) ∧
    (w6.setCell ⟨gg, k, none⟩ (.int .u8 (z : Int))).cell? ⟨g, r * 2 + 1, none⟩ = some u ∧
    (w6.setCell ⟨gg, k, none⟩ (.int .u8 (z : Int))).frozen? ⟨g, r * 2 + 1, none⟩ = false ∧
    SeesS (fun _ => True) ((w6.setCell ⟨gg, k, none⟩ (.int .u8 (z : Int))).setCell ⟨g, r * 2 + 1, none⟩ (.slice (some ⟨gg, 0, none⟩) gn gc)) (.slice (some ⟨g, 0, none⟩) n oc) (S0.set r ⟨ea, eb.set k z⟩) ∧
    SeesS (fun k => B ≤ k ∧ k < w.heap.size) ((w6.setCell ⟨gg, k, none⟩ (.int .u8 (z : Int))).setCell ⟨g, r * 2 + 1, none⟩ (.slice (some ⟨gg, 0, none⟩) gn gc)) vn S4 ∧
    ∃ S', Pn w0 K ((w6.setCell ⟨gg, k, none⟩ (.int .u8 (z : Int))).setCell ⟨g, r * 2 + 1, none⟩ (.slice (some ⟨gg, 0, none⟩) gn gc)) pb m S' := by
  have hgl : g < w.heap.size := h.fl.lt (.inl rfl)
  have hgg := ho.lt (g := gg) rfl
  have hbl := (Array.getElem?_eq_some_iff.1 h.rw).1
  have hk7 : Keeps (fun k => k = gg) w6 (w6.setCell ⟨gg, k, none⟩ (.int .u8 (z : Int))) := Keeps.set (S := fun k => k = gg) (Keeps.refl _ _) ⟨gg, k, none⟩ rfl _
  have ho7 := ho.put k z
  have hf6 := h.below hb6
  have hfl7 : Fl (w6.setCell ⟨gg, k, none⟩ (.int .u8 (z : Int))) (.slice (some ⟨g, 0, none⟩) n oc) E := hf6.fl.keeps hk7 fun q e e2 => by
    have := h.fl.lt e; omega
  have hr7 := hk7.mem hf6.rw (by omega)
  have hn7 := ((hN.weak (K' := fun k => B ≤ k ∧ k < w.heap.size) fun q hq e => ⟨e, hq⟩).below hb6).keeps hk7 fun q e e2 => by omega
  have hk68 : Keeps (fun q => q = gg ∨ q = g) w6 ((w6.setCell ⟨gg, k, none⟩ (.int .u8 (z : Int))).setCell ⟨g, r * 2 + 1, none⟩ (.slice (some ⟨gg, 0, none⟩) gn gc)) :=
    Keeps.set (S := fun q => q = gg ∨ q = g) (Keeps.set (S := fun q => q = gg ∨ q = g) (Keeps.refl _ _) ⟨gg, k, none⟩ (.inl rfl) _) ⟨g, r * 2 + 1, none⟩ (.inr rfl) _
  generalize w6.setCell ⟨gg, k, none⟩ (.int .u8 (z : Int)) = w7 at *
  have hk8 : Keeps (fun q => q = g) w7 (w7.setCell ⟨g, r * 2 + 1, none⟩ (.slice (some ⟨gg, 0, none⟩) gn gc)) := Keeps.set (S := fun q => q = g) (Keeps.refl _ _) ⟨g, r * 2 + 1, none⟩ rfl _
  have hok := h.fl.ok _ (List.mem_of_getElem? he)
  have hput := hfl7.putU ⟨ea, eb.set k z, .slice (some ⟨gg, 0, none⟩) gn gc⟩ _ he rfl (ho7.low (Nat.zero_le _)) ⟨by simpa using hok.2.1, fun q hq => by
    rcases List.mem_or_eq_of_mem_set hq with hq | rfl
    · exact hok.2.2 q hq
    · exact hz⟩ (fun q hq j hj e => by
      have h1 := h.fl.lt (k := j) (.inr ⟨q, hq, hj⟩)
      simp only [Value.ownBlock, Option.some.injEq] at e
      have h2 := ho.lt (g := j) (by simpa [Value.ownBlock] using e)
      omega)
  obtain ⟨g', hge, -, hc⟩ := hfl7.at he
  simp only [Option.some.injEq, Addr.mk.injEq, and_true] at hge
  subst hge
  obtain ⟨-, d1, d2⟩ := hc w7 rfl
  refine ⟨hr7, d1, d2 _, ?_, hn7.keeps hk8 fun q e e2 => by omega, S, ?_⟩
  · have := hput.sees
    rw [set_map, h.em] at this
    exact this.weak fun _ _ _ => trivial
  · have h1 : Pn w0 (fun q => K1 q ∨ q = gg) w6 pb m S := h.pn.more hb6 fun q e => by
      rcases e with e | e
      · exact ⟨.inl e, Nat.lt_of_lt_of_le (h.pn.inn q e) hb6.size⟩
      · rw [e]; exact ⟨.inr hgg.1, hgg.2⟩
    refine (h1.write hk68 fun q e => ?_).less fun q e => .inl (h.le q e)
    rcases e with e | e
    · rw [e]; exact ⟨.inr rfl, Nat.le_trans h.pn.be.size hgg.1⟩
    · rw [e]; have := h.fk g (.inl rfl); exact ⟨.inl this.1, this.2⟩
end Go.Proofs.Ytaelfhjhinfikab
