/-
  DiskArmed: two disks at once; what an armed one does.
-/
import Derived.Test.YtjepeeopjjnglaaDkw
import Derived.Test.YtjepeeopjjnglaaDkt
namespace Go.Proofs.Ytjepeeopjjnglaa
open Go Go.RowKit Go.ChangeShapes
open Wb

/-- two disks in memory, apart -/
structure TW (B : Nat) (w : World) (g : Nat) (S : Dk.DS) (M : Mm) (h : Nat) (T : Dk.DS) (M' : Mm) : Prop where
  l : DM B w g S M
  r : DM B w h T M'
  ap : ∀ q, Ft g S M q → ¬ Ft h T M' q
theorem row_low {w : World} {B B2 : Nat} {t : TypeId} {c : Nat} {v : Value} {n : Nat} {cells : List Value} (h : w.ownsRow B t c v n cells) (hB : B2 ≤ B) : w.ownsRow B2 t c v n cells := by
  refine ⟨h.1, ?_⟩
  rcases h.2 with e | ⟨b, c', cur, e3, hb, rest⟩
  · exact .inl e
  · exact .inr ⟨b, c', cur, e3, Nat.le_trans hB hb, rest⟩
section
variable {B g h : Nat} {w w' : World} {S S2 T T2 : Dk.DS} {M M' : Mm}
theorem TW.kept (t : TW B w g S M h T M') (hb : Below w.heap.size w w') : TW B w' g S M h T M' := ⟨t.l.kept hb, t.r.kept hb, t.ap⟩
theorem TW.swap (t : TW B w g S M h T M') : TW B w h T M' g S M := ⟨t.r, t.l, fun q h1 h2 => t.ap q h2 h1⟩
/-- a call on the first leaves the second as it is -/
theorem TW.left (t : TW B w g S M h T M') (hp : DPost B g S M w S2 w') : ∃ M2, TW B w' g S2 M2 h T M' := by
  obtain ⟨M2, h1, h2, h3⟩ := hp
  refine ⟨M2, h1, t.r.blk fun q hq => h2.block q (t.r.ft hq).2 fun e => t.ap q e hq, fun q hq hq2 => ?_⟩
  rcases h3 q hq with e | e
  · exact t.ap q e hq2
  · have := (t.r.ft hq2).2
    omega
theorem TW.right (t : TW B w g S M h T M') (hp : DPost B h T M' w T2 w') : ∃ M2, TW B w' g S M h T2 M2 := by
  obtain ⟨M2, h9⟩ := t.swap.left hp
  exact ⟨M2, h9.swap⟩
/-- a disk that is made behind the first lies apart from it -/
theorem TW.new {w2 : World} (h1 : DM B w g S M) (h2 : DM w.heap.size w2 h T M') (hb : Below w.heap.size w w2) (hB2 : DM B w2 h T M') : TW B w2 g S M h T M' := ⟨h1.kept hb, hB2, fun q e1 e2 => by
  have a1 := (h1.ft e1).2
  have a2 := (h2.ft e2).1
  omega⟩
/-- a disk's blocks lie from B on: also from a smaller B on -/
theorem DM.low {B2 : Nat} (h1 : DM B w g S M) (hB : B2 ≤ B) : DM B2 w g S M := ⟨h1.box, h1.nm, h1.la, row_low h1.ch hB, h1.fb, fun f hf => (h1.fd f hf).mono hB, h1.ap, h1.ne, Nat.le_trans hB h1.gB, fun b e => Nat.le_trans hB (h1.mB b e), fun f hf => Nat.le_trans hB (h1.fB f hf)⟩
end
namespace Dk
section
variable {φ : Nat → Nat} {S T : DS} {N : Nat}
theorem cnt_left (hc : (Dk.cnt T).1 = 0) : (Dk.cnt T).2.down = T.down ∧ (Dk.cnt T).2.armed = T.armed ∧ (Dk.cnt T).2.left = if T.armed = true then T.left - 1 else T.left := by
  unfold Dk.cnt at hc ⊢
  split
  · rename_i ha
    exact ⟨rfl, rfl, by rw [ha]; simp⟩
  · rename_i ha
    split
    · rename_i hl
      rw [if_neg ha, if_pos hl] at hc
      cases hc
    · exact ⟨rfl, rfl, by rw [if_pos (by simpa using ha)]⟩
/-- what the one refuses changes nothing on the other; where the other is stopped it goes down and nothing else -/
theorem Iso.stop (h : Iso φ S T) (hd : T.down = S.down) (ha : S.armed = false) (hW : WF S N) (o : Rop) (f' : Nat) : (Dk.doE S o ≠ 0 → doS T o f' = T) ∧ (Dk.doE S o = 0 → (Dk.cnt T).1 ≠ 0 → doS T o f' = (Dk.cnt T).2) := by
  have a1 : ∀ ls, askE T ls = askE S ls := fun ls => by unfold askE; rw [hd]
  have a2 : ∀ s, (findE T s).1 = (findE S s).1 := fun s => (h.find hd s).1
  unfold Dk.doE doS
  split
  · have hg : (get T.nm o.a.data.toList).isSome = (get S.nm o.a.data.toList).isSome := by rw [h.nm, get_mp, Option.isSome_map]
    unfold crtE Dk.crt
    rw [a1, hg, cnt_un ha]
    by_cases e : askE S [o.a.data.toList] = 0
    · cases hgs : (get S.nm o.a.data.toList).isSome with
      | true => exact ⟨fun _ => by simp [e], fun e2 => by simp [e] at e2⟩
      | false => exact ⟨fun e2 => by simp [e] at e2, fun _ hc => by simp [e, hc]⟩
    · exact ⟨fun _ => by simp [e], fun e2 => by simp [e] at e2⟩
  split
  · unfold appE Dk.app
    rw [a2, cnt_un ha, h.quota, h.taken]
    by_cases e : (findE S o.a.data.toList).1 = 0
    · by_cases e3 : (o.data.length : Int) > S.quota - S.taken
      · exact ⟨fun _ => by simp [e3], fun e2 => by rw [if_pos e, if_pos e3] at e2; cases e2⟩
      · exact ⟨fun e2 => by rw [if_pos e, if_neg e3] at e2; exact absurd rfl e2, fun _ hc => by rw [if_pos ⟨e, e3⟩, if_neg hc]⟩
    · exact ⟨fun _ => by rw [if_neg fun x => e x.1], fun e2 => by rw [if_neg e] at e2; exact absurd e2 e⟩
  split
  · unfold synE Dk.syn
    rw [a2, cnt_un ha]
    by_cases e : (findE S o.a.data.toList).1 = 0
    · exact ⟨fun e2 => by rw [if_pos e] at e2; exact absurd rfl e2, fun _ hc => by rw [if_pos e, if_neg hc]⟩
    · exact ⟨fun _ => by rw [if_neg e], fun e2 => by rw [if_neg e] at e2; exact absurd e2 e⟩
  split
  · unfold truE Dk.tru
    rw [a2, cnt_un ha]
    by_cases e : (findE S o.a.data.toList).1 = 0
    · have hb : bad T (fil T o.a.data.toList) o.n = bad S (fil S o.a.data.toList) o.n := by
        unfold bad
        rw [(h.find hd _).2 e, h.fo _ (hW.ids _ (get_mem (find_some e).1))]
      rw [hb]
      cases hbs : bad S (fil S o.a.data.toList) o.n with
      | true => exact ⟨fun _ => by simp, fun e2 => by simp [e] at e2⟩
      | false => exact ⟨fun e2 => by simp [e] at e2, fun _ hc => by rw [if_pos ⟨e, rfl⟩, if_neg hc]⟩
    · exact ⟨fun _ => by rw [if_neg fun x => e x.1], fun e2 => by rw [if_neg e] at e2; exact absurd e2 e⟩
  split
  · unfold renE synE Dk.ren
    rw [a1, a2, cnt_un ha]
    by_cases e4 : askE S [o.a.data.toList, o.b.data.toList] = 0
    · by_cases e : (findE S o.a.data.toList).1 = 0
      · exact ⟨fun e2 => by rw [if_pos e4, if_pos e] at e2; exact absurd rfl e2, fun _ hc => by rw [if_pos ⟨e4, e⟩, if_neg hc]⟩
      · exact ⟨fun _ => by rw [if_neg fun x => e x.2], fun e2 => by rw [if_pos e4, if_neg e] at e2; exact absurd e2 e⟩
    · exact ⟨fun _ => by rw [if_neg fun x => e4 x.1], fun e2 => by rw [if_neg e4] at e2; exact absurd e2 e4⟩
  split
  · unfold synE Dk.rem
    rw [a2, cnt_un ha]
    by_cases e : (findE S o.a.data.toList).1 = 0
    · exact ⟨fun e2 => by rw [if_pos e] at e2; exact absurd rfl e2, fun _ hc => by rw [if_pos e, if_neg hc]⟩
    · exact ⟨fun _ => by rw [if_neg e], fun e2 => by rw [if_neg e] at e2; exact absurd e2 e⟩
  · unfold sdE Dk.sd
    rw [a1, cnt_un ha]
    by_cases e : askE S [] = 0
    · exact ⟨fun e2 => by rw [if_pos e] at e2; exact absurd rfl e2, fun _ hc => by rw [if_pos e, if_neg hc]⟩
    · exact ⟨fun _ => by rw [if_neg e], fun e2 => by rw [if_neg e] at e2; exact absurd e2 e⟩
end
end Dk
end Go.Proofs.Ytjepeeopjjnglaa
