/-
  Package index, pure: what Decode reads, Encode writes.
-/
import Derived.Test.YtceokpklcfmadaaIxd
import Derived.Test.YtceokpklcfmadaaIx5
namespace Go.Proofs.Ytceokpklcfmadaa
open Go Go.RowKit Go.ChangeShapes
open Wb

namespace Ix
/-- offsets, written -/
def wrO : Nat → List Nat → List Nat
  | _, [] => []
  | off, x :: r => Wn.uint (x - off) ++ wrO x r
/-- keys with their offsets, written -/
def wrK : Nat → List (Nat × List Nat) → List Nat
  | _, [] => []
  | key, (k, xs) :: r => Wn.uint (k - key) ++ Wn.uint xs.length ++ wrO 0 xs ++ wrK k r
def okO : Bool → Nat → List Nat → Prop
  | _, _, [] => True
  | f, off, x :: r => off ≤ x ∧ (f = false → off < x) ∧ x ≤ 9223372036854775807 ∧ okO false x r
def okK : Nat → List (Nat × List Nat) → Prop
  | _, [] => True
  | key, (k, xs) :: r => key < k ∧ k ≤ 9223372036854775807 ∧ xs ≠ [] ∧ okO true 0 xs ∧ okK k r
def gm (es : List (Nat × List Nat)) : Gm := es.map fun p => ((p.1 : Int), nums p.2)
theorem nm_back (l : List Nat) (hok : ok l) (p : Nat) (hp : p ≤ l.length) (h0 : (nm l p).2.2 = 0) : l.drop p = Wn.uint (nm l p).1 ++ l.drop (nm l p).2.1 := by
  rcases nm_ru l p hp with ⟨er, h1, -, e, -⟩ | ⟨v, q, h1, h2, e, -, hr⟩
  · rw [e] at h0
    exact absurd h0 h1
  · rw [e]
    have h3 := rd_back0 _ _ _ (ok_drop hok p) hr
    have h4 : l.drop p = (l.drop p).take (q - p) ++ (l.drop p).drop (q - p) := (List.take_append_drop _ _).symm
    rw [h3.2.1, List.drop_drop] at h4
    have h5 : p + (q - p) = q := by omega
    rw [h5] at h4
    exact h4
theorem offP_back (l : List Nat) (hok : ok l) : ∀ (c : Nat) (f : Bool) (p off : Nat) (acc : List Nat), p ≤ l.length → off ≤ 9223372036854775807 → (offP l c f p off acc).1 = 0 → ∃ xs, (offP l c f p off acc).2.2 = acc ++ xs ∧ xs.length = c ∧ l.drop p = wrO off xs ++ l.drop (offP l c f p off acc).2.1 ∧ okO f off xs
  | 0, _, _, _, _, _, _, _ => ⟨[], by simp [offP], rfl, rfl, trivial⟩
  | c + 1, f, p, off, acc, hp, ho, he => by
    have h := nm_le l p hp
    rw [offP] at he ⊢
    split at he
    · rename_i h0
      exact absurd he h0
    · rename_i h0
      have h0 : (nm l p).2.2 = 0 := by omega
      split at he
      · cases he
      · rename_i h1
        rw [if_neg (by simpa using h0), if_neg h1]
        have h2 : ¬ 9223372036854775807 - off < (nm l p).1 := fun e => h1 (.inr e)
        obtain ⟨xs, e1, e2, e3, e4⟩ := offP_back l hok c false (nm l p).2.1 (off + (nm l p).1) (acc ++ [off + (nm l p).1]) h.2.1 (by omega) he
        refine ⟨(off + (nm l p).1) :: xs, ?_, ?_, ?_, ?_⟩
        · rw [e1]
          simp
        · simp [e2]
        · rw [wrO, nm_back l hok p hp h0, e3, List.append_assoc]
          congr 2
          omega
        · refine ⟨by omega, fun hf => ?_, by omega, e4⟩
          have : (nm l p).1 ≠ 0 := fun e => h1 (.inl ⟨e, hf⟩)
          omega
theorem offsP_back (l : List Nat) (hok : ok l) (p : Nat) (hp : p ≤ l.length) (he : (offsP l p).1 = 0) : l.drop p = Wn.uint (offsP l p).2.2.length ++ wrO 0 (offsP l p).2.2 ++ l.drop (offsP l p).2.1 ∧ (offsP l p).2.2 ≠ [] ∧ okO true 0 (offsP l p).2.2 := by
  have h := nm_le l p hp
  have hne := (offsP_len l p hp).2.2 he
  unfold offsP at he hne ⊢
  split at he
  · rename_i h0
    exact absurd he h0
  · rename_i h0
    have h0 : (nm l p).2.2 = 0 := by omega
    split at he
    · cases he
    · rename_i h1
      rw [if_neg (by simpa using h0), if_neg h1] at hne ⊢
      obtain ⟨xs, e1, e2, e3, e4⟩ := offP_back l hok (nm l p).1 true (nm l p).2.1 0 [] h.2.1 (by omega) he
      rw [List.nil_append] at e1
      refine ⟨?_, hne, ?_⟩
      · rw [e1, e2, List.append_assoc, ← e3]
        exact nm_back l hok p hp h0
      · rw [e1]
        exact e4
theorem decP_back (l : List Nat) (hok : ok l) : ∀ (c p key : Nat) (kvs : Gm), p ≤ l.length → key ≤ 9223372036854775807 → (decP l c p key kvs).1 = 0 → ∃ es, (decP l c p key kvs).2 = kvs ++ gm es ∧ es.length = c ∧ l.drop p = wrK key es ∧ okK key es
  | 0, p, key, kvs, hp, hk, he => by
    rw [decP] at he ⊢
    split at he
    · rename_i h0
      rw [if_pos h0]
      exact ⟨[], by simp [gm], rfl, by rw [h0, List.drop_length]; rfl, trivial⟩
    · cases he
  | c + 1, p, key, kvs, hp, hk, he => by
    have h := keyP_le l p key hp
    rw [decP] at he ⊢
    split at he
    · rename_i h0
      exact absurd he h0
    · rename_i h0
      have h0 : (keyP l p key).2.2 = 0 := by omega
      split at he
      · rename_i h1
        exact absurd he h1
      · rename_i h1
        have h1 : (offsP l (keyP l p key).2.1).1 = 0 := by omega
        have h2 := offsP_len l (keyP l p key).2.1 h.2.1
        have h3 := h.2.2 h0
        rw [if_neg (by simpa using h0), if_neg (by simpa using h1)]
        obtain ⟨es, e1, e2, e3, e4⟩ := decP_back l hok c _ _ _ h2.2.1 (h3.2 hk) he
        obtain ⟨b1, b2, b3⟩ := offsP_back l hok _ h.2.1 h1
        have hkey : l.drop p = Wn.uint ((keyP l p key).1 - key) ++ l.drop (keyP l p key).2.1 := by
          unfold keyP at h0 ⊢
          split at h0
          · rename_i h9
            exact absurd h0 h9
          · rename_i h9
            have h9 : (nm l p).2.2 = 0 := by omega
            split at h0
            · cases h0
            · rename_i h10
              rw [if_neg (by simpa using h9), if_neg h10]
              show l.drop p = Wn.uint (key + (nm l p).1 - key) ++ l.drop (nm l p).2.1
              rw [Nat.add_sub_cancel_left]
              exact nm_back l hok p hp h9
        refine ⟨((keyP l p key).1, (offsP l (keyP l p key).2.1).2.2) :: es, ?_, ?_, ?_, ?_⟩
        · rw [e1]
          simp [gm]
        · simp [e2]
        · rw [wrK, hkey, b1, e3]
          simp
        · exact ⟨h3.1, h3.2 hk, b2, b3, e4⟩
theorem u64_sub (x off : Nat) (h1 : off ≤ x) (h2 : x ≤ 9223372036854775807) : u64 ((x : Int) - (off : Int)) = x - off := by
  unfold u64
  rw [IntWalk.i64_in _ (by omega), IntWalk.u64_in _ (by omega)]
  omega
theorem enc_offs (kvs : Gm) (k : Nat) (hk : 1 ≤ k) : ∀ (xs : List Nat) (out : List Nat) (off : Nat), okO false off xs → ∃ o, ((nums xs).map fun v => ((k : Int), v)).foldlM (encS kvs) (out, (k : Int), (off : Int)) = .ok (out ++ wrO off xs, (k : Int), o)
  | [], out, off, _ => ⟨off, by simp [nums, wrO]; rfl⟩
  | x :: r, out, off, h => by
    obtain ⟨h1, h2, h3, h4⟩ := h
    obtain ⟨o, ih⟩ := enc_offs kvs k hk r (out ++ Wn.uint (x - off)) x h4
    refine ⟨o, ?_⟩
    have e : encS kvs (out, (k : Int), (off : Int)) ((k : Int), (x : Int)) = .ok (out ++ Wn.uint (x - off), (k : Int), (x : Int)) := by
      have := h2 rfl
      unfold encS
      rw [if_neg (by show ¬ (k : Int) < 1; omega), if_neg (by simp), if_neg (by show ¬ (x : Int) ≤ (off : Int); omega)]
      show Except.ok (out ++ Wn.uint (u64 ((x : Int) - (off : Int))), (k : Int), (x : Int)) = _
      rw [u64_sub x off h1 h3]
    show (do let s' ← encS kvs (out, (k : Int), (off : Int)) ((k : Int), (x : Int)); List.foldlM (encS kvs) s' ((nums r).map fun v => ((k : Int), v))) = _
    rw [e, wrO, ← List.append_assoc, ← ih]
    rfl
theorem enc_keys (kvs : Gm) : ∀ (es : List (Nat × List Nat)) (out : List Nat) (key : Nat) (off : Int), okK key es → (∀ p ∈ es, (get kvs (p.1 : Int)).length = p.2.length) → ∃ k o, (prs (gm es)).foldlM (encS kvs) (out, (key : Int), off) = .ok (out ++ wrK key es, k, o)
  | [], out, key, off, _, _ => ⟨key, off, by simp [gm, prs, wrK]; rfl⟩
  | (k, []) :: r, out, key, off, h, _ => absurd rfl h.2.2.1
  | (k, x :: xs) :: r, out, key, off, h, hg => by
    obtain ⟨h1, h2, -, ⟨-, -, h3, h4⟩, h5⟩ := h
    obtain ⟨o1, i1⟩ := enc_offs kvs k (by omega) xs (out ++ Wn.uint (k - key) ++ Wn.uint (xs.length + 1) ++ Wn.uint (x - 0)) x h4
    obtain ⟨k2, o2, i2⟩ := enc_keys kvs r (out ++ Wn.uint (k - key) ++ Wn.uint (xs.length + 1) ++ Wn.uint (x - 0) ++ wrO x xs) k o1 h5 fun p hp => hg p (List.mem_cons_of_mem _ hp)
    refine ⟨k2, o2, ?_⟩
    have hgk := hg (k, x :: xs) List.mem_cons_self
    have e : encS kvs (out, (key : Int), off) ((k : Int), (x : Int)) = .ok (out ++ Wn.uint (k - key) ++ Wn.uint (xs.length + 1) ++ Wn.uint (x - 0), (k : Int), (x : Int)) := by
      unfold encS
      rw [if_neg (by show ¬ (k : Int) < 1; omega), if_pos (by show (k : Int) ≠ (key : Int); omega), if_neg (by show ¬ (x : Int) < 0; omega)]
      show Except.ok (out ++ Wn.uint (u64 ((k : Int) - (key : Int))) ++ Wn.uint (get kvs (k : Int)).length ++ Wn.uint (u64 ((x : Int) - ((0 : Nat) : Int))), (k : Int), (x : Int)) = _
      rw [u64_sub k key (by omega) h2, u64_sub x 0 (by omega) h3, hgk]
      rfl
    have e0 : prs (gm ((k, x :: xs) :: r)) = ((k : Int), (x : Int)) :: (((nums xs).map fun v => ((k : Int), v)) ++ prs (gm r)) := by
      simp [prs, gm, nums]
    rw [e0, List.foldlM_cons, e]
    show List.foldlM (encS kvs) _ _ = _
    rw [List.foldlM_append, i1]
    show List.foldlM (encS kvs) _ _ = _
    rw [i2]
    simp [wrK, wrO]
theorem okK_lo : ∀ (es : List (Nat × List Nat)) (key : Nat), okK key es → ∀ p ∈ es, key < p.1 ∧ p.1 ≤ 9223372036854775807
  | [], _, _, _, hp => by cases hp
  | (k, xs) :: r, key, h, p, hp => by
    rcases List.mem_cons.1 hp with rfl | hp
    · exact ⟨h.1, h.2.1⟩
    · have h1 := okK_lo r k h.2.2.2.2 p hp
      have h2 := h.1
      exact ⟨by omega, h1.2⟩
theorem wrO_len : ∀ (xs : List Nat) (off : Nat), xs.length ≤ (wrO off xs).length
  | [], _ => Nat.le_refl _
  | x :: r, off => by
    have := wrO_len r x
    have := Wn.uint_pos (x - off)
    simp [wrO]
    omega
theorem wrK_len : ∀ (es : List (Nat × List Nat)) (key : Nat), es.length ≤ (wrK key es).length ∧ (prs (gm es)).length ≤ (wrK key es).length
  | [], _ => ⟨Nat.le_refl _, by simp [prs, gm]⟩
  | (k, xs) :: r, key => by
    have h1 := wrK_len r k
    have h2 := Wn.uint_pos (k - key)
    have h3 := wrO_len xs 0
    have e0 : (prs (gm ((k, xs) :: r))).length = xs.length + (prs (gm r)).length := by
      simp [prs, gm, nums]
    rw [e0]
    simp [wrK]
    omega
/-- what Decode reads, Encode writes as just these bytes -/
theorem decode_back (l : List Nat) (hok : ok l) (he : (decodeP l).1 = 0) (hr : rising (decodeP l).2) : (∃ k o, encF (decodeP l).2 (allE (decodeP l).2) = .ok (l, k, o)) ∧ (decodeP l).2.length ≤ l.length ∧ (allE (decodeP l).2).length ≤ l.length := by
  have h := nm_le l 0 (Nat.zero_le _)
  unfold decodeP at he hr ⊢
  split at he
  · rename_i h0
    exact absurd he h0
  · rename_i h0
    have h0 : (nm l 0).2.2 = 0 := by omega
    rw [if_neg (by simpa using h0)] at hr ⊢
    obtain ⟨es, e1, e2, e3, e4⟩ := decP_back l hok _ _ 0 [] h.2.1 (by omega) he
    rw [List.nil_append] at e1
    rw [e1] at hr ⊢
    have e5 := nm_back l hok 0 (Nat.zero_le _) h0
    rw [List.drop_zero, e3, ← e2] at e5
    have e6 : allE (gm es) = prs (gm es) := by
      unfold allE within
      rw [List.filter_eq_self.2]
      intro p hp
      obtain ⟨q, hq, rfl⟩ := List.mem_map.1 hp
      have := okK_lo es 0 e4 q hq
      simp
      omega
    have hlen := wrK_len es 0
    have h9 : l.length = (Wn.uint es.length).length + (wrK 0 es).length := by
      conv => lhs; rw [e5]
      rw [List.length_append]
    rw [e6]
    refine ⟨?_, ?_, by omega⟩
    · obtain ⟨k, o, h8⟩ := enc_keys (gm es) es (Wn.uint es.length) 0 0 e4 fun p hp => by
        rw [get_mem hr (List.mem_map.2 ⟨p, hp, rfl⟩)]
        simp [nums]
      refine ⟨k, o, ?_⟩
      rw [← e5] at h8
      unfold encF
      have e7 : (gm es).length = es.length := by simp [gm]
      rw [e7]
      exact h8
    · have e7 : (gm es).length = es.length := by simp [gm]
      omega
theorem decode_one : decodeP [1, 5, 2, 7, 1] = (0, [(5, [7, 8])]) := by decide +kernel
end Ix
end Go.Proofs.Ytceokpklcfmadaa
