/-
  IndexOne: the law's walk.
-/
import Derived.Test.YtceokpklcfmadaaIxf
namespace Go.Proofs.Ytceokpklcfmadaa
open Go Go.RowKit Go.ChangeShapes
open Wb

theorem ixbs_take {w : World} {ao : Option Addr} {cap : Nat} {l : List Nat} (h : Bs w (.slice ao l.length cap) l) (n : Nat) (hn : n ≤ l.length) : Bs w (.slice ao n cap) (l.take n) := by
  obtain ⟨ao', cap', e, h1, h2, h3, hc⟩ := h.shape
  simp only [Value.slice.injEq] at e
  obtain ⟨rfl, _, rfl⟩ := e
  refine ⟨⟨ao, cap, by rw [List.length_take, Nat.min_eq_left hn], by rw [List.length_take]; omega, h2, h3, fun hne => ?_⟩, fun x hx => h.good x (List.mem_of_mem_take hx)⟩
  have hl : l ≠ [] := fun e => hne (by rw [e]; simp)
  obtain ⟨b, off, rfl, hcell⟩ := hc hl
  refine ⟨b, off, rfl, fun j hj => ?_⟩
  rw [List.length_take] at hj
  rw [List.getElem_take]
  exact hcell j (by omega)
theorem Ix.encF_error (kvs : Ix.Gm) (all pre : List (Int × Int)) (hp : pre <+: all) (er : Nat) (h : Ix.encF kvs pre = .error er) : Ix.encF kvs all = .error er := by
  obtain ⟨t, rfl⟩ := hp
  unfold Ix.encF at h ⊢
  rw [List.foldlM_append, h]
  rfl
/-- Encode of what Decode reads -/
theorem ixback_any (g b base n : Nat) (l : List Nat) (w : World) (hok : ok l) (hl : l.length ≤ 65536) (h : MI w g b base n (Ix.decodeP l).2) (he : (Ix.decodeP l).1 = 0) (hn : n ≤ l.length) :
    Calls Try.prog 24 #[.pointer (some ⟨g, 0, none⟩)] w fun e w' => ∃ ad, ∃ m c : Nat, e = .returned (.tuple #[.slice ad m c, .int .i64 0]) ∧ Bs w' (.slice ad m c) l ∧ Below w.heap.size w w' := by
  obtain ⟨⟨k, o, hF⟩, h1, h2⟩ := Ix.decode_back l hok he h.ris
  refine (ixenc_any g b base n _ w h (by omega) (by omega) (by omega)).mono fun e w' ⟨hb, hc⟩ => ?_
  rcases hc with ⟨s, e1, ad, m, c, e2, e3⟩ | ⟨er, pre, e1, e2, -⟩
  · rw [hF] at e1
    cases e1
    exact ⟨ad, m, c, e2, e3.bs, hb⟩
  · rw [Ix.encF_error _ _ pre e1 er e2] at hF
    cases hF
end Go.Proofs.Ytceokpklcfmadaa
