/-
  The reference's Pieces: a list of pieces in a row of its own.
-/
import Derived.Test.YtbabckchfabbkaaDoorPc3
import Derived.Test.YtbabckchfabbkaaDoorNm
import Derived.Test.YtbabckchfabbkaaDoorItr
import Derived.Laws.AppendOwnNone
import Derived.Maps.AppendAt
import Derived.WalkSpells
import Derived.WalkLawsBesides
namespace Go.Proofs.YtbabckchfabbkaaDoor
open Go Go.RowKit
open Tx

namespace Tx
/-- where the pieces from p on begin -/
def pcs (s : ByteArray) (p : Nat) : List Nat := if _h : p < s.size then p :: pcs s (p + (Utf8.decode s p).2) else []
termination_by s.size - p
decreasing_by
  have := decode_fits s p (by assumption)
  omega
theorem pcs_in (s : ByteArray) (p : Nat) (h : p < s.size) : pcs s p = p :: pcs s (p + (Utf8.decode s p).2) := by rw [pcs, dif_pos h]
theorem pcs_out (s : ByteArray) (p : Nat) (h : ¬ p < s.size) : pcs s p = [] := by rw [pcs, dif_neg h]
def cell3 (s : ByteArray) (q : Nat) : List Value := [.int .i64 (pcR s q), .int .i64 (q : Int), .int .i64 ((Utf8.decode s q).2 : Int)]
theorem cells_len (s : ByteArray) (qs : List Nat) : (qs.flatMap (cell3 s)).length = qs.length * 3 := by
  induction qs with
  | nil => rfl
  | cons q qs ih =>
    rw [List.flatMap_cons, List.length_append, ih, List.length_cons]
    show 3 + qs.length * 3 = (qs.length + 1) * 3
    omega
theorem cells_get (s : ByteArray) : ∀ (qs : List Nat) (k : Nat) (h : k < qs.length) (j : Nat), j < 3 → (qs.flatMap (cell3 s))[k * 3 + j]? = (cell3 s qs[k])[j]?
  | q :: qs, 0, _, j, hj => by
    rw [List.flatMap_cons, List.getElem?_append_left (by show 0 * 3 + j < 3; omega)]
    simp
  | q :: qs, k + 1, h, j, hj => by
    rw [List.flatMap_cons, List.getElem?_append_right (by show 3 ≤ _; omega)]
    have := cells_get s qs k (by simpa using h) j hj
    rw [show (k + 1) * 3 + j - (cell3 s q).length = k * 3 + j by show (k + 1) * 3 + j - 3 = _; omega]
    simpa using this
end Tx

def Pcs (B : Nat) (w : World) (v : Value) (s : ByteArray) (qs : List Nat) : Prop := w.ownsRow B 70 3 v qs.length (qs.flatMap (cell3 s))
theorem Pcs.nil (B : Nat) (w : World) (s : ByteArray) : Pcs B w (.slice none 0 0) s [] := World.ownsRow_nil _ _ _ _
theorem Pcs.kept {B : Nat} {w w' : World} {v : Value} {s : ByteArray} {qs : List Nat} (h : Pcs B w v s qs) (hb : Below w.heap.size w w') : Pcs B w' v s qs := by
  refine ⟨h.1, ?_⟩
  rcases h.2 with h1 | ⟨g, cap, cur, rfl, h1, hg, rest⟩
  · exact .inl h1
  · exact .inr ⟨g, cap, cur, rfl, h1, (hb.block g (Array.getElem?_eq_some_iff.1 hg).1).trans hg, rest⟩
theorem Pcs.shape {B : Nat} {w : World} {v : Value} {s : ByteArray} {qs : List Nat} (h : Pcs B w v s qs) : ∃ ao cap, v = .slice ao qs.length cap ∧ cap ≤ maxLen ∧ (∀ k, k < qs.length → ∃ g, ao = some ⟨g, 0, none⟩) ∧
    ∀ g, ao = some ⟨g, 0, none⟩ → ∀ k (hk : k < qs.length), w.cell? ⟨g, k * 3, none⟩ = some (.int .i64 (pcR s qs[k])) ∧ w.cell? ⟨g, k * 3 + 1, none⟩ = some (.int .i64 (qs[k] : Int)) ∧ w.cell? ⟨g, k * 3 + 2, none⟩ = some (.int .i64 ((Utf8.decode s qs[k]).2 : Int)) := by
  have h0 := h
  rcases h.2 with ⟨rfl, h1⟩ | ⟨g, cap, cur, rfl, hb, hg, h1, h2, h3, h4⟩
  · exact ⟨none, 0, by rw [h1], by simp [maxLen], fun k hk => by omega, fun g e => by cases e⟩
  · refine ⟨some ⟨g, 0, none⟩, cap, rfl, h2, fun k _ => ⟨g, rfl⟩, fun g' e k hk => ?_⟩
    obtain rfl : g = g' := by simpa using e
    have key : ∀ j, j < 3 → w.cell? ⟨g, k * 3 + j, none⟩ = (cell3 s qs[k])[j]? := fun j hj => by
      rw [← cells_get s qs k hk j hj]
      have hl := cells_len s qs
      exact World.ownsRow.cellAt h0 (k * 3 + j) (by rw [Nat.mul_comm]; omega)
    exact ⟨key 0 (by omega), key 1 (by omega), key 2 (by omega)⟩
theorem infoPc3 : (Tryd.prog.info? 70).map (fun i => (i.zero, i.size, i.bytes)) = some (some (.agg #[.int .i64 0, .int .i64 0, .int .i64 0]), 3, 24) := by kernel_rfl

/-- append(v, x) of one piece -/
theorem wpList_append_pc {P : Program} (w : World) {ops : Array Oper} {rest : List Oper} {o : Oper} {a : Act} {Q : Exit → Act → World → Prop} (hgd : o.guard = none) (s x : Operand) (t : TypeId)
    (ho : o.op = .call { callee := .builtin .append, args := #[s, x], argTypes := #[t, t] })
    (B : Nat) (hinfo : (P.info? 70).map (fun i => (i.zero, i.size, i.bytes)) = some (some (.agg #[.int .i64 0, .int .i64 0, .int .i64 0]), 3, 24)) (ht : P.underlying t = some (.slice 70))
    (v : Value) (str : ByteArray) (qs : List Nat) (q : Nat) (hv : a.eval s = v) (h : Pcs B w v str qs) (g : Nat) (hx : a.eval x = .slice (some ⟨g, 0, none⟩) 1 1)
    (hc : ∀ j u, (cell3 str q)[j]? = some u → w.cell? ⟨g, j, none⟩ = some u)
    (hmax : qs.length ≤ 1000000) (hB : B ≤ w.heap.size)
    (hK : ∀ v' w', Pcs B w' v' str (qs ++ [q]) → Below B w w' → w.grownBy w' v.ownBlock → wpList P ops Q rest (a.put o.dst v') w') : wpList P ops Q (o :: rest) a w := by
  obtain ⟨i0, hi, hz0, hz1, hz2⟩ := info_parts3 hinfo
  refine wpList_append_own_at w hgd s x t ho B 70 i0 (.agg #[.int .i64 0, .int .i64 0, .int .i64 0]) 3 24 ht hi hz0 hz1 hz2 rfl (by decide) v qs.length (qs.flatMap (cell3 str)) hv h ⟨g, 0, none⟩ 1 1 (cell3 str q) hx rfl ?_ ?_ (by unfold maxLen; omega) (by omega) hB ?_
  · intro j u hj
    have := hc j u hj
    rw [Addr.add_lit, Nat.zero_add]
    exact this
  · intro u hu
    simp only [cell3, List.mem_cons, List.not_mem_nil, or_false] at hu
    rcases hu with rfl | rfl | rfl <;> rfl
  · intro v' w' h2 h3 _ _
    refine hK v' w' ?_ ((Below.refl B w).grown h3 hB (fun k hk => (World.ownsRow.lt h k hk).1)) h3
    show w'.ownsRow B 70 3 v' (qs ++ [q]).length ((qs ++ [q]).flatMap (cell3 str))
    rw [List.length_append, List.flatMap_append]
    simpa using h2
theorem three_new (w : World) (o : Obj) (a b c : Value) (t : TypeId) : ∀ j u, [a, b, c][j]? = some u → ((w.alloc o).alloc (.cells #[a, b, c] t)).cell? ⟨w.heap.size + 1, j, none⟩ = some u := by
  intro j u hj
  have e : w.heap.size + 1 = (w.alloc o).heap.size := by
    show w.heap.size + 1 = (w.heap.push o).size
    simp
  rw [e, World.cell?_alloc_new (w.alloc o) _ _ j, ← Array.getElem?_toList]
  exact hj
theorem box3 (w w' : World) (p : Obj) (a b c : Value) (t : TypeId) (g0 : Option Nat) (h : ((w.alloc (.cells #[a, b, c] t)).alloc p).grownBy w' g0) (hg : ∀ k, g0 = some k → k < w.heap.size) :
    w'.cell? ⟨w.heap.size, 0, none⟩ = some a ∧ w'.cell? ⟨w.heap.size, 1, none⟩ = some b ∧ w'.cell? ⟨w.heap.size, 2, none⟩ = some c := by
  have h1 := two_new w (.cells #[a, b, c] t) p
  have h2 : w'.heap[w.heap.size]? = some (.cells #[a, b, c] t) := by
    rw [h.block w.heap.size (Array.getElem?_eq_some_iff.1 h1).1 (fun e => by have := hg w.heap.size e.symm; omega)]
    exact h1
  simp [World.cell?, h2]

set_option maxRecDepth 100000 in
set_option maxHeartbeats 1000000 in
theorem pieces_any (s : ByteArray) (w : World) (hs : s.size ≤ 1000000) :
    Calls Tryd.prog 35 #[.string s] w fun e w' => ∃ v, e = .returned v ∧ Pcs w.heap.size w' v s (pcs s 0) ∧ Below w.heap.size w w' := by
  have hin := infoPc3
  obtain ⟨R, hR⟩ : ∃ R, pcs s 0 = R := ⟨_, rfl⟩
  have HR : Hid (pcs s 0 = R) := hR
  rw [hR]
  clear hR
  go_enter Tryd.func35, Tryd.ntmps35
  go_wp2
  go_loopw [3, 4] (fun o i wr => ∃ (p : Nat) (done : List Nat), i = .int .i64 (p : Int) ∧ p ≤ s.size ∧ done.length ≤ p ∧ done ++ pcs s p = R ∧ Pcs w.heap.size wr o s done ∧ Below w.heap.size w wr) (fun _ i _ => s.size - (intOf i).toNat)
  case atStart => exact ⟨0, [], rfl, Nat.zero_le _, Nat.zero_le _, HR.out, Pcs.nil _ _ _, Below.refl _ _⟩
  case round =>
    obtain ⟨p, done, rfl, hp, hdl, hd, hown, hbel⟩ := hrel
    have HD : Hid (done ++ pcs s p = R) := hd
    clear hd HR
    by_cases hlt : p < s.size
    · have hf := decode_fits s p hlt
      have HD2 : Hid ((done ++ [p]) ++ pcs s (p + (Utf8.decode s p).2) = R) := by
        show _ = _
        rw [← HD.out, pcs_in s p hlt, List.append_assoc]
        rfl
      have HP : Hid (∀ w', Calls Tryd.prog 30 #[.string s, .int .i64 (p : Int)] w' fun e w'' => e = .returned (.agg #[.int .i64 (pcR s p), .int .i64 p, .int .i64 ((Utf8.decode s p).2 : Int)]) ∧ Below w'.heap.size w' w'') := fun w' => piece_any s p w' (by omega) hlt
      have HC : Hid (cell3 s p = [.int .i64 (pcR s p), .int .i64 (p : Int), .int .i64 ((Utf8.decode s p).2 : Int)]) := rfl
      have hsz := hbel.size
      have hob : ∀ k, u3.ownBlock = some k → k < wr.heap.size := fun k hk => (World.ownsRow.lt hown k hk).2
      have HOB : Hid (∀ k, u3.ownBlock = some k → k < wr.heap.size) := hob
      clear HD hob
      generalize (Utf8.decode s p).2 = n at *
      generalize pcR s p = r at *
      go_wp2_with fail
      refine (HP.out _).mono ?_
      rintro e w1 ⟨rfl, b1⟩
      have b1' := andThen hbel b1
      have hs1 := b1.size
      have HO : Hid (∀ o o', Pcs w.heap.size ((w1.alloc o).alloc o') u3 s done) := fun o o' => (hown.kept b1).kept (up2 _ _ _)
      clear HP b1 hown hbel
      go_wp2_with (at_builtin; refine wpList_append_pc _ rfl (.tmp 13) (.tmp 15) 76 rfl w.heap.size hin Tryd.underlying76 _ s done p rfl (HO.out _ _) _ rfl (by rw [HC.out]; exact three_new w1 _ _ _ _ _) (by omega) (by simp; omega) ?_)
      intro v2 w2 hr2 hb2 hg2
      obtain ⟨c0, c1, c2⟩ := box3 w1 w2 _ _ _ _ _ _ hg2 (fun k hk => by have := HOB.out k hk; omega)
      have R2 : Hid (Pcs w.heap.size w2 v2 s (done ++ [p]) ∧ Below w.heap.size w w2) := ⟨hr2, (up (up b1' _) _).trans hb2⟩
      clear hr2 hb2 hg2 HO HC b1'
      go_wp2
      go_roundw
      case rel => exact ⟨p + n, done ++ [p], by go_num, hf.2.1, by simp; omega, HD2.out, R2.out.1, R2.out.2⟩
      case measure => simp [intOf]; omega
    · have HE : Hid (done = R) := by
        show _ = _
        have := HD.out
        rw [pcs_out s p hlt, List.append_nil] at this
        exact this
      go_wp2
      go_ret
      exact ⟨_, rfl, by rw [← HE.out]; exact hown, hbel⟩
end Go.Proofs.YtbabckchfabbkaaDoor
