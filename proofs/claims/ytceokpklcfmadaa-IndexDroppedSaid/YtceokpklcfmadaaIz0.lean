/-
  Package index, pure: what Encode writes of rising keys and offsets, Decode reads.
-/
import Derived.Test.YtceokpklcfmadaaIxg
import Derived.Test.YtceokpklcfmadaaIxh
namespace Go.Proofs.Ytceokpklcfmadaa
open Go Go.RowKit Go.ChangeShapes
open Wb

namespace Ix
theorem drop_app {l a r : List Nat} {p : Nat} (h : l.drop p = a ++ r) : l.drop (p + a.length) = r := by
  rw [← List.drop_drop, h, List.drop_left]
theorem nm_fwd (l : List Nat) (p v : Nat) (r : List Nat) (hv : v < 18446744073709551616) (h : l.drop p = Wn.uint v ++ r) : nm l p = (v, p + (Wn.uint v).length, 0) := by
  unfold nm
  rw [h, Wn.rd_uint0 v r hv]
  simp
theorem okO_le : ∀ (xs : List Nat) (f : Bool) (off : Nat), okO f off xs → ∀ x ∈ xs, x ≤ 9223372036854775807
  | [], _, _, _, _, hx => by cases hx
  | y :: r, f, off, h, x, hx => by
    rcases List.mem_cons.1 hx with rfl | hx
    · exact h.2.2.1
    · exact okO_le r false y h.2.2.2 x hx
theorem offP_fwd (l : List Nat) : ∀ (xs : List Nat) (f : Bool) (p off : Nat) (acc r : List Nat), off ≤ 9223372036854775807 → okO f off xs → l.drop p = wrO off xs ++ r → offP l xs.length f p off acc = (0, p + (wrO off xs).length, acc ++ xs)
  | [], f, p, off, acc, r, _, _, _ => by simp [offP, wrO]
  | x :: xs, f, p, off, acc, r, ho, h, hd => by
    obtain ⟨h1, h2, h3, h4⟩ := h
    rw [wrO, List.append_assoc] at hd
    have e := nm_fwd l p (x - off) _ (by omega) hd
    rw [List.length_cons, offP, e]
    simp only [ne_eq, not_true_eq_false, if_false]
    rw [if_neg (by
      rintro (⟨h5, h6⟩ | h5)
      · have := h2 h6
        omega
      · omega)]
    have e2 : off + (x - off) = x := by omega
    rw [e2, offP_fwd l xs false _ x (acc ++ [x]) r h3 h4 (drop_app hd), wrO, List.length_append]
    simp [Nat.add_assoc]
theorem wrK_app (key k : Nat) (xs : List Nat) (r : List (Nat × List Nat)) : wrK key ((k, xs) :: r) = Wn.uint (k - key) ++ (Wn.uint xs.length ++ (wrO 0 xs ++ wrK k r)) := by
  simp [wrK]
theorem offsP_fwd (l : List Nat) (xs : List Nat) (p : Nat) (r : List Nat) (hn : xs ≠ []) (hl : xs.length < 18446744073709551616) (h : okO true 0 xs) (hd : l.drop p = Wn.uint xs.length ++ (wrO 0 xs ++ r)) : offsP l p = (0, p + (Wn.uint xs.length).length + (wrO 0 xs).length, xs) := by
  have e := nm_fwd l p xs.length _ hl hd
  have h0 : xs.length ≠ 0 := fun e => hn (List.eq_nil_of_length_eq_zero e)
  unfold offsP
  rw [e]
  simp only [ne_eq, not_true_eq_false, if_false]
  rw [if_neg h0, offP_fwd l xs true _ 0 [] r (by omega) h (drop_app hd)]
  simp
theorem decP_fwd (l : List Nat) : ∀ (es : List (Nat × List Nat)) (p key : Nat) (kvs : Gm), p ≤ l.length → okK key es → (∀ q ∈ es, q.2.length < 18446744073709551616) → l.drop p = wrK key es → decP l es.length p key kvs = (0, kvs ++ gm es)
  | [], p, key, kvs, hp, _, _, hd => by
    have h1 : p = l.length := by
      have := congrArg List.length hd
      rw [List.length_drop] at this
      simp [wrK] at this
      omega
    rw [List.length_nil, decP, if_pos h1]
    simp [gm]
  | (k, xs) :: r, p, key, kvs, hp, h, hb, hd => by
    obtain ⟨h1, h2, h3, h4, h5⟩ := h
    rw [wrK_app] at hd
    have e1 : keyP l p key = (k, p + (Wn.uint (k - key)).length, 0) := by
      have e := nm_fwd l p (k - key) _ (by omega) hd
      unfold keyP
      rw [e]
      simp only [ne_eq, not_true_eq_false, if_false]
      rw [if_neg (by omega)]
      simp
      omega
    have hd2 := drop_app hd
    have e2 := offsP_fwd l xs _ _ h3 (hb _ List.mem_cons_self) h4 hd2
    have hd3 := drop_app (drop_app hd2)
    have hp2 : p + (Wn.uint (k - key)).length + (Wn.uint xs.length).length + (wrO 0 xs).length ≤ l.length := by
      have := congrArg List.length hd
      rw [List.length_drop] at this
      simp at this
      have := Wn.uint_pos (k - key)
      omega
    rw [List.length_cons, decP, e1]
    simp only [ne_eq, not_true_eq_false, if_false]
    rw [e2]
    simp only [not_true_eq_false, if_false]
    rw [decP_fwd l r _ k _ hp2 h5 (fun q hq => hb q (List.mem_cons_of_mem _ hq)) hd3]
    simp [gm]
/-- the bytes of keys with offsets -/
def wrI (es : List (Nat × List Nat)) : List Nat := Wn.uint es.length ++ wrK 0 es
theorem decode_fwd (es : List (Nat × List Nat)) (h : okK 0 es) (hn : es.length < 18446744073709551616) (hb : ∀ q ∈ es, q.2.length < 18446744073709551616) : decodeP (wrI es) = (0, gm es) := by
  have e := nm_fwd (wrI es) 0 es.length (wrK 0 es) hn rfl
  have hd : (wrI es).drop (0 + (Wn.uint es.length).length) = wrK 0 es := drop_app (a := Wn.uint es.length) rfl
  unfold decodeP
  rw [e]
  simp only [ne_eq, not_true_eq_false, if_false]
  rw [decP_fwd (wrI es) es _ 0 [] (by unfold wrI; simp) h hb hd]
  rfl
theorem gm_rising : ∀ (es : List (Nat × List Nat)) (key : Nat), okK key es → rising (gm es)
  | [], _, _ => List.Pairwise.nil
  | (k, xs) :: r, key, h => by
    refine List.pairwise_cons.2 ⟨fun q hq => ?_, gm_rising r k h.2.2.2.2⟩
    obtain ⟨p, hp, rfl⟩ := List.mem_map.1 hq
    have := okK_lo r k h.2.2.2.2 p hp
    show (k : Int) < (p.1 : Int)
    omega
theorem gm_allE (es : List (Nat × List Nat)) (h : okK 0 es) : allE (gm es) = prs (gm es) := by
  unfold allE within
  rw [List.filter_eq_self.2]
  intro p hp
  obtain ⟨q, hq, rfl⟩ := List.mem_map.1 hp
  have := okK_lo es 0 h q hq
  simp
  omega
/-- Encode writes them -/
theorem encode_fwd (es : List (Nat × List Nat)) (h : okK 0 es) : ∃ k o, encF (gm es) (allE (gm es)) = .ok (wrI es, k, o) := by
  rw [gm_allE es h]
  obtain ⟨k, o, h8⟩ := enc_keys (gm es) es (Wn.uint es.length) 0 0 h fun p hp => by
    rw [get_mem (gm_rising es 0 h) (List.mem_map.2 ⟨p, hp, rfl⟩)]
    simp [nums]
  refine ⟨k, o, ?_⟩
  unfold encF
  have e7 : (gm es).length = es.length := by simp [gm]
  rw [e7]
  exact h8
theorem okO_snoc : ∀ (xs : List Nat) (f : Bool) (off x : Nat), okO f off xs → off ≤ x → (f = false → off < x) → (∀ y ∈ xs, y < x) → x ≤ 9223372036854775807 → okO f off (xs ++ [x])
  | [], _, _, _, _, h1, h2, _, h3 => ⟨h1, h2, h3, trivial⟩
  | y :: r, _, _, x, h, _, _, hy, h3 => ⟨h.1, h.2.1, h.2.2.1, okO_snoc r false y x h.2.2.2 (Nat.le_of_lt (hy y List.mem_cons_self)) (fun _ => hy y List.mem_cons_self) (fun z hz => hy z (List.mem_cons_of_mem _ hz)) h3⟩
theorem okK_snoc : ∀ (es : List (Nat × List Nat)) (key k : Nat) (xs : List Nat), okK key es → key < k → (∀ p ∈ es, p.1 < k) → k ≤ 9223372036854775807 → xs ≠ [] → okO true 0 xs → okK key (es ++ [(k, xs)])
  | [], _, _, _, _, h1, _, h2, h3, h4 => ⟨h1, h2, h3, h4, trivial⟩
  | (k', _) :: r, _, k, xs, h, _, hk, h2, h3, h4 => ⟨h.1, h.2.1, h.2.2.1, h.2.2.2.1, okK_snoc r k' k xs h.2.2.2.2 (hk _ List.mem_cons_self) (fun p hp => hk p (List.mem_cons_of_mem _ hp)) h2 h3 h4⟩
theorem gm_snoc (es : List (Nat × List Nat)) (k : Nat) (xs : List Nat) : gm (es ++ [(k, xs)]) = gm es ++ [((k : Int), nums xs)] := by
  simp [gm]
end Ix
end Go.Proofs.Ytceokpklcfmadaa
