import Derived.Test.YtceokpklcfmadaaRows
import Derived.ProofKit
import Derived.OpenShut
import Derived.ShutString
import Derived.ChangeOld
import Derived.ChangeMaps5
import Derived.Deep.DeepHandedRow
import Derived.LaidLaws
import Derived.Test.YtceokpklcfmadaaQI8
import Derived.Test.YtceokpklcfmadaaQI4
/-
  Package index, pure: what Decode reads, Encode writes.
-/
namespace Go.Proofs.Ytceokpklcfmadaa
open Go Go.RowKit Go.ChangeShapes
open Wb

namespace Ix
/-- offsets, written -/
def wrO : Nat → List Nat → List Nat
  | _, [] => []
  | off, x :: r => Wn.uint (x - off) ++ wrO x r
/-- keys with their offsets, written -/
def wrK : Nat → List (Nat × List Nat) → List Nat
  | _, [] => []
  | key, (k, xs) :: r => Wn.uint (k - key) ++ Wn.uint xs.length ++ wrO 0 xs ++ wrK k r
def okO : Bool → Nat → List Nat → Prop
  | _, _, [] => True
  | f, off, x :: r => off ≤ x ∧ (f = false → off < x) ∧ x ≤ 9223372036854775807 ∧ okO false x r
def okK : Nat → List (Nat × List Nat) → Prop
  | _, [] => True
  | key, (k, xs) :: r => key < k ∧ k ≤ 9223372036854775807 ∧ xs ≠ [] ∧ okO true 0 xs ∧ okK k r
def gm (es : List (Nat × List Nat)) : Gm := es.map fun p => ((p.1 : Int), nums p.2)
theorem nm_back (l : List Nat) (hok : ok l) (p : Nat) (hp : p ≤ l.length) (h0 : (nm l p).2.2 = 0) : l.drop p = Wn.uint (nm l p).1 ++ l.drop (nm l p).2.1 := by
  rcases nm_ru l p hp with ⟨er, h1, -, e, -⟩ | ⟨v, q, h1, h2, e, -, hr⟩
  · rw [e] at h0
    exact absurd h0 h1
  · rw [e]
    have h3 := rd_back0 _ _ _ (ok_drop hok p) hr
    have h4 : l.drop p = (l.drop p).take (q - p) ++ (l.drop p).drop (q - p) := (List.take_append_drop _ _).symm
    rw [h3.2.1, List.drop_drop] at h4
    have h5 : p + (q - p) = q := by omega
    rw [h5] at h4
    exact h4
theorem offP_back (l : List Nat) (hok : ok l) : ∀ (c : Nat) (f : Bool) (p off : Nat) (acc : List Nat), p ≤ l.length → off ≤ 9223372036854775807 → (offP l c f p off acc).1 = 0 → ∃ xs, (offP l c f p off acc).2.2 = acc ++ xs ∧ xs.length = c ∧ l.drop p = wrO off xs ++ l.drop (offP l c f p off acc).2.1 ∧ okO f off xs
  | 0, _, _, _, _, _, _, _ => ⟨[], by simp [offP], rfl, rfl, trivial⟩
  | c + 1, f, p, off, acc, hp, ho, he => by
    have h := nm_le l p hp
    rw [offP] at he ⊢
    split at he
    · rename_i h0
      exact absurd he h0
    · rename_i h0
      have h0 : (nm l p).2.2 = 0 := by omega
      split at he
      · cases he
      · rename_i h1
        rw [if_neg (by simpa using h0), if_neg h1]
        have h2 : ¬ 9223372036854775807 - off < (nm l p).1 := fun e => h1 (.inr e)
        obtain ⟨xs, e1, e2, e3, e4⟩ := offP_back l hok c false (nm l p).2.1 (off + (nm l p).1) (acc ++ [off + (nm l p).1]) h.2.1 (by omega) he
        refine ⟨(off + (nm l p).1) :: xs, ?_, ?_, ?_, ?_⟩
        · rw [e1]
          simp
        · simp [e2]
        · rw [wrO, nm_back l hok p hp h0, e3, List.append_assoc]
          congr 2
          omega
        · refine ⟨by omega, fun hf => ?_, by omega, e4⟩
          have : (nm l p).1 ≠ 0 := fun e => h1 (.inl ⟨e, hf⟩)
          omega
theorem offsP_back (l : List Nat) (hok : ok l) (p : Nat) (hp : p ≤ l.length) (he : (offsP l p).1 = 0) : l.drop p = Wn.uint (offsP l p).2.2.length ++ wrO 0 (offsP l p).2.2 ++ l.drop (offsP l p).2.1 ∧ (offsP l p).2.2 ≠ [] ∧ okO true 0 (offsP l p).2.2 := by
  have h := nm_le l p hp
  have hne := (offsP_len l p hp).2.2 he
  unfold offsP at he hne ⊢
  split at he
  · rename_i h0
    exact absurd he h0
  · rename_i h0
    have h0 : (nm l p).2.2 = 0 := by omega
    split at he
    · cases he
    · rename_i h1
      rw [if_neg (by simpa using h0), if_neg h1] at hne ⊢
      obtain ⟨xs, e1, e2, e3, e4⟩ := offP_back l hok (nm l p).1 true (nm l p).2.1 0 [] h.2.1 (by omega) he
      rw [List.nil_append] at e1
      refine ⟨?_, hne, ?_⟩
      · rw [e1, e2, List.append_assoc, ← e3]
        exact nm_back l hok p hp h0
      · rw [e1]
        exact e4
theorem decP_back (l : List Nat) (hok : ok l) : ∀ (c p key : Nat) (kvs : Gm), p ≤ l.length → key ≤ 9223372036854775807 → (decP l c p key kvs).1 = 0 → ∃ es, (decP l c p key kvs).2 = kvs ++ gm es ∧ es.length = c ∧ l.drop p = wrK key es ∧ okK key es
  | 0, p, key, kvs, hp, hk, he => by
    rw [decP] at he ⊢
    split at he
    · rename_i h0
      rw [if_pos h0]
      exact ⟨[], by simp [gm], rfl, by rw [h0, List.drop_length]; rfl, trivial⟩
    · cases he
  | c + 1, p, key, kvs, hp, hk, he => by
    have h := keyP_le l p key hp
    rw [decP] at he ⊢
    split at he
    · rename_i h0
      exact absurd he h0
    · rename_i h0
      have h0 : (keyP l p key).2.2 = 0 := by omega
      split at he
      · rename_i h1
        exact absurd he h1
      · rename_i h1
        have h1 : (offsP l (keyP l p key).2.1).1 = 0 := by omega
        have h2 := offsP_len l (keyP l p key).2.1 h.2.1
        have h3 := h.2.2 h0
        rw [if_neg (by simpa using h0), if_neg (by simpa using h1)]
        obtain ⟨es, e1, e2, e3, e4⟩ := decP_back l hok c _ _ _ h2.2.1 (h3.2 hk) he
        obtain ⟨b1, b2, b3⟩ := offsP_back l hok _ h.2.1 h1
        have hkey : l.drop p = Wn.uint ((keyP l p key).1 - key) ++ l.drop (keyP l p key).2.1 := by
          unfold keyP at h0 ⊢
          split at h0
          · rename_i h9
            exact absurd h0 h9
          · rename_i h9
            have h9 : (nm l p).2.2 = 0 := by omega
            split at h0
            · cases h0
            · rename_i h10
              rw [if_neg (by simpa using h9), if_neg h10]
              show l.drop p = Wn.uint (key + (nm l p).1 - key) ++ l.drop (nm l p).2.1
              rw [Nat.add_sub_cancel_left]
              exact nm_back l hok p hp h9
        refine ⟨((keyP l p key).1, (offsP l (keyP l p key).2.1).2.2) :: es, ?_, ?_, ?_, ?_⟩
        · rw [e1]
          simp [gm]
        · simp [e2]
        · rw [wrK, hkey, b1, e3]
          simp
        · exact ⟨h3.1, h3.2 hk, b2, b3, e4⟩
theorem u64_sub (x off : Nat) (h1 : off ≤ x) (h2 : x ≤ 9223372036854775807) : u64 ((x : Int) - (off : Int)) = x - off := by
  unfold u64
  rw [IntWalk.i64_in _ (by omega), IntWalk.u64_in _ (by omega)]
  omega
theorem enc_offs (kvs : Gm) (k : Nat) (hk : 1 ≤ k) : ∀ (xs : List Nat) (out : List Nat) (off : Nat), okO false off xs → ∃ o, ((nums xs).map fun v => ((k : Int), v)).foldlM (encS kvs) (out, (k : Int), (off : Int)) = .ok (out ++ wrO off xs, (k : Int), o)
  | [], out, off, _ => ⟨off, by simp [nums, wrO]; rfl⟩
  | x :: r, out, off, h => by
    obtain ⟨h1, h2, h3, h4⟩ := h
    obtain ⟨o, ih⟩ := enc_offs kvs k hk r (out ++ Wn.uint (x - off)) x h4
    refine ⟨o, ?_⟩
    have e : encS kvs (out, (k : Int), (off : Int)) ((k : Int), (x : Int)) = .ok (out ++ Wn.uint (x - off), (k : Int), (x : Int)) := by
      have := h2 rfl
      unfold encS
      rw [if_neg (by show ¬ (k : Int) < 1; omega), if_neg (by simp), if_neg (by show ¬ (x : Int) ≤ (off : Int); omega)]
      show Except.ok (out ++ Wn.uint (u64 ((x : Int) - (off : Int))), (k : Int), (x : Int)) = _
      rw [u64_sub x off h1 h3]
    show (do let s' ← encS kvs (out, (k : Int), (off : Int)) ((k : Int), (x : Int)); List.foldlM (encS kvs) s' ((nums r).map fun v => ((k : Int), v))) = _
    rw [e, wrO, ← List.append_assoc, ← ih]
    rfl
theorem enc_keys (kvs : Gm) : ∀ (es : List (Nat × List Nat)) (out : List Nat) (key : Nat) (off : Int), okK key es → (∀ p ∈ es, (get kvs (p.1 : Int)).length = p.2.length) → ∃ k o, (prs (gm es)).foldlM (encS kvs) (out, (key : Int), off) = .ok (out ++ wrK key es, k, o)
  | [], out, key, off, _, _ => ⟨key, off, by simp [gm, prs, wrK]; rfl⟩
  | (k, []) :: r, out, key, off, h, _ => absurd rfl h.2.2.1
  | (k, x :: xs) :: r, out, key, off, h, hg => by
    obtain ⟨h1, h2, -, ⟨-, -, h3, h4⟩, h5⟩ := h
    obtain ⟨o1, i1⟩ := enc_offs kvs k (by omega) xs (out ++ Wn.uint (k - key) ++ Wn.uint (xs.length + 1) ++ Wn.uint (x - 0)) x h4
    obtain ⟨k2, o2, i2⟩ := enc_keys kvs r (out ++ Wn.uint (k - key) ++ Wn.uint (xs.length + 1) ++ Wn.uint (x - 0) ++ wrO x xs) k o1 h5 fun p hp => hg p (List.mem_cons_of_mem _ hp)
    refine ⟨k2, o2, ?_⟩
    have hgk := hg (k, x :: xs) List.mem_cons_self
    have e : encS kvs (out, (key : Int), off) ((k : Int), (x : Int)) = .ok (out ++ Wn.uint (k - key) ++ Wn.uint (xs.length + 1) ++ Wn.uint (x - 0), (k : Int), (x : Int)) := by
      unfold encS
      rw [if_neg (by show ¬ (k : Int) < 1; omega), if_pos (by show (k : Int) ≠ (key : Int); omega), if_neg (by show ¬ (x : Int) < 0; omega)]
      show Except.ok (out ++ Wn.uint (u64 ((k : Int) - (key : Int))) ++ Wn.uint (get kvs (k : Int)).length ++ Wn.uint (u64 ((x : Int) - ((0 : Nat) : Int))), (k : Int), (x : Int)) = _
      rw [u64_sub k key (by omega) h2, u64_sub x 0 (by omega) h3, hgk]
      rfl
    have e0 : prs (gm ((k, x :: xs) :: r)) = ((k : Int), (x : Int)) :: (((nums xs).map fun v => ((k : Int), v)) ++ prs (gm r)) := by
      simp [prs, gm, nums]
    rw [e0, List.foldlM_cons, e]
    show List.foldlM (encS kvs) _ _ = _
    rw [List.foldlM_append, i1]
    show List.foldlM (encS kvs) _ _ = _
    rw [i2]
    simp [wrK, wrO]
theorem okK_lo : ∀ (es : List (Nat × List Nat)) (key : Nat), okK key es → ∀ p ∈ es, key < p.1 ∧ p.1 ≤ 9223372036854775807
  | [], _, _, _, hp => by cases hp
  | (k, xs) :: r, key, h, p, hp => by
    rcases List.mem_cons.1 hp with rfl | hp
    · exact ⟨h.1, h.2.1⟩
    · have h1 := okK_lo r k h.2.2.2.2 p hp
      have h2 := h.1
      exact ⟨by omega, h1.2⟩
theorem wrO_len : ∀ (xs : List Nat) (off : Nat), xs.length ≤ (wrO off xs).length
  | [], _ => Nat.le_refl _
  | x :: r, off => by
    have := wrO_len r x
    have := Wn.uint_pos (x - off)
    simp [wrO]
    omega
theorem wrK_len : ∀ (es : List (Nat × List Nat)) (key : Nat), es.length ≤ (wrK key es).length ∧ (prs (gm es)).length ≤ (wrK key es).length
  | [], _ => ⟨Nat.le_refl _, by simp [prs, gm]⟩
  | (k, xs) :: r, key => by
    have h1 := wrK_len r k
    have h2 := Wn.uint_pos (k - key)
    have h3 := wrO_len xs 0
    have e0 : (prs (gm ((k, xs) :: r))).length = xs.length + (prs (gm r)).length := by
      simp [prs, gm, nums]
    rw [e0]
    simp [wrK]
    omega
/-- what Decode reads, Encode writes as just these bytes -/
theorem decode_back (l : List Nat) (hok : ok l) (he : (decodeP l).1 = 0) (hr : rising (decodeP l).2) : (∃ k o, encF (decodeP l).2 (allE (decodeP l).2) = .ok (l, k, o)) ∧ (decodeP l).2.length ≤ l.length ∧ (allE (decodeP l).2).length ≤ l.length := by
  have h := nm_le l 0 (Nat.zero_le _)
  unfold decodeP at he hr ⊢
  split at he
  · rename_i h0
    exact absurd he h0
  · rename_i h0
    have h0 : (nm l 0).2.2 = 0 := by omega
    rw [if_neg (by simpa using h0)] at hr ⊢
    obtain ⟨es, e1, e2, e3, e4⟩ := decP_back l hok _ _ 0 [] h.2.1 (by omega) he
    rw [List.nil_append] at e1
    rw [e1] at hr ⊢
    have e5 := nm_back l hok 0 (Nat.zero_le _) h0
    rw [List.drop_zero, e3, ← e2] at e5
    have e6 : allE (gm es) = prs (gm es) := by
      unfold allE within
      rw [List.filter_eq_self.2]
      intro p hp
      obtain ⟨q, hq, rfl⟩ := List.mem_map.1 hp
      have := okK_lo es 0 e4 q hq
      simp
      omega
    have hlen := wrK_len es 0
    have h9 : l.length = (Wn.uint es.length).length + (wrK 0 es).length := by
      conv => lhs; rw [e5]
      rw [List.length_append]
    rw [e6]
    refine ⟨?_, ?_, by omega⟩
    · obtain ⟨k, o, h8⟩ := enc_keys (gm es) es (Wn.uint es.length) 0 0 e4 fun p hp => by
        rw [get_mem hr (List.mem_map.2 ⟨p, hp, rfl⟩)]
        simp [nums]
      refine ⟨k, o, ?_⟩
      rw [← e5] at h8
      unfold encF
      have e7 : (gm es).length = es.length := by simp [gm]
      rw [e7]
      exact h8
    · have e7 : (gm es).length = es.length := by simp [gm]
      omega
theorem decode_one : decodeP [1, 5, 2, 7, 1] = (0, [(5, [7, 8])]) := by decide +kernel
end Ix
end Go.Proofs.Ytceokpklcfmadaa

/-
  Package index: sameBytes, sameInts, Get.
-/
namespace Go.Proofs.Ytceokpklcfmadaa
open Go Go.RowKit Go.ChangeShapes
open Wb

/-- numbers in a row -/
def Ri (w : World) (v : Value) (zs : List Int) : Prop := ∃ a c, v = .slice a zs.length c ∧ zs.length ≤ maxLen ∧ (zs ≠ [] → ∃ b off, a = some ⟨b, off, none⟩ ∧ ∀ j (h : j < zs.length), w.cell? ⟨b, off + j, none⟩ = some (.int .i64 zs[j]))
theorem Ri.of {w : World} {base : Nat} {e : TypeId} {v : Value} {zs : List Int} (h : w.ownsRow base e 1 v zs.length (zs.map (Value.int .i64))) : Ri w v zs := by
  rcases h.2 with ⟨rfl, h0⟩ | ⟨g, cap, cur, rfl, -, hh, h1, h2, h3, h4⟩
  · obtain rfl := List.length_eq_zero_iff.1 h0
    exact ⟨none, 0, rfl, by simp, fun e => absurd rfl e⟩
  · refine ⟨some ⟨g, 0, none⟩, cap, rfl, Nat.le_trans h1 h2, fun _ => ⟨g, 0, rfl, fun j hj => ?_⟩⟩
    have h5 : cur.toList[j]? = some (.int .i64 zs[j]) := by
      have h6 : (cur.toList.take (zs.length * 1))[j]? = some (.int .i64 zs[j]) := by
        rw [h4]
        simp [hj]
      rw [List.getElem?_take_of_lt (by omega)] at h6
      exact h6
    rw [Nat.zero_add]
    unfold World.cell?
    simp [hh]
    simpa using h5
theorem Ri.kept {w w' : World} {v : Value} {zs : List Int} (h : Ri w v zs) (hb : Below w.heap.size w w') : Ri w' v zs := by
  obtain ⟨a, c, rfl, hm, hc⟩ := h
  refine ⟨a, c, rfl, hm, fun hne => ?_⟩
  obtain ⟨b, off, rfl, hcell⟩ := hc hne
  exact ⟨b, off, rfl, fun j hj => (hb.cell (p := ⟨b, off + j, none⟩) (World.block_lt_of_cell? _ _ (hcell j hj))).trans (hcell j hj)⟩
set_option maxHeartbeats 400000 in
theorem ixsameb_any (va vb : Value) (a b : List Nat) (w : World) (ha : Bs w va a) (hb : Bs w vb b) :
    Calls Try.prog 44 #[va, vb] w fun e w' => e = .returned (.bool (decide (a = b))) ∧ Below w.heap.size w w' := by
  obtain ⟨aoa, capa, rfl, hla, hma, hna, hca⟩ := ha.shape
  obtain ⟨aob, capb, rfl, hlb, hmb, hnb, hcb⟩ := hb.shape
  unfold maxLen at hma hmb
  have ga := ha.good
  have gb := hb.good
  by_cases hlen : a.length = b.length
  · have HL : Hid (a.length = b.length) := hlen
    have d0 : ((a.length : Int) != (b.length : Int)) = false := by simp [hlen]
    clear hlen
    go_enter Try.func44, Try.ntmps44
    go_wp2
    go_loopw [5] (fun i wr => ∃ k : Nat, k ≤ a.length ∧ i = .int .i64 k ∧ a.take k = b.take k ∧ Below w.heap.size w wr) (fun i _ => a.length - (intOf i).toNat)
    case atStart => exact ⟨0, Nat.zero_le _, rfl, by simp, Below.refl _ _⟩
    case round =>
      obtain ⟨k, hk, rfl, heq, hbel⟩ := hrel
      have HQ : Hid (a.take k = b.take k) := heq
      clear heq
      by_cases hlt : k < a.length
      · have hlt' : k < b.length := by rw [← HL.out]; exact hlt
        obtain ⟨b1, off1, rfl, hcell1⟩ := hca (List.ne_nil_of_length_pos (by omega))
        obtain ⟨b2, off2, rfl, hcell2⟩ := hcb (List.ne_nil_of_length_pos (by omega))
        have q1 := (hbel.cell (p := ⟨b1, off1 + k, none⟩) (World.block_lt_of_cell? _ _ (hcell1 k hlt))).trans (hcell1 k hlt)
        have q2 := (hbel.cell (p := ⟨b2, off2 + k, none⟩) (World.block_lt_of_cell? _ _ (hcell2 k hlt'))).trans (hcell2 k hlt')
        clear hca hcb hcell1 hcell2 hna hnb ha hb
        by_cases hxy : a[k] = b[k]
        · have HS : Hid (a.take (k + 1) = b.take (k + 1)) := by
            show _ = _
            rw [List.take_succ_eq_append_getElem hlt, List.take_succ_eq_append_getElem hlt', HQ.out, hxy]
          rw [hxy] at q1
          generalize b[k] = y at *
          have d1 : ((y : Int) != (y : Int)) = false := by simp
          clear hxy
          go_wp2
          go_quiet (fail)
          go_wp2
          go_roundw
          case rel => exact ⟨k + 1, by omega, by go_num, HS.out, bel_drewI hbel _⟩
          case measure => simp [intOf]; omega
        · have HN : Hid (¬ a = b) := by
            intro e
            subst e
            exact hxy rfl
          have d1 : ((a[k] : Int) != (b[k] : Int)) = true := by rw [bne_iff_ne]; omega
          generalize a[k] = x at *
          generalize b[k] = y at *
          clear hxy
          go_wp2
          go_quiet (fail)
          go_wp2
          go_ret
          exact ⟨by rw [decide_eq_false HN.out]; rfl, bel_drewI hbel _⟩
      · have HE : Hid (a = b) := by
          have h := HQ.out
          rw [List.take_of_length_le (by omega), List.take_of_length_le (by rw [← HL.out]; omega)] at h
          exact h
        go_wp2
        go_ret
        exact ⟨by rw [decide_eq_true HE.out]; rfl, hbel⟩
  · have HN : Hid (¬ a = b) := fun e => hlen (by rw [e])
    have d0 : ((a.length : Int) != (b.length : Int)) = true := by rw [bne_iff_ne]; omega
    clear hlen hca hcb
    go_enter Try.func44, Try.ntmps44
    go_wp2
    go_ret
    exact ⟨by rw [decide_eq_false HN.out]; rfl, Below.refl _ _⟩

set_option maxHeartbeats 400000 in
theorem ixsamei_any (va vb : Value) (a b : List Int) (w : World) (ha : Ri w va a) (hb : Ri w vb b) :
    Calls Try.prog 17 #[va, vb] w fun e w' => e = .returned (.bool (decide (a = b))) ∧ Below w.heap.size w w' := by
  obtain ⟨aoa, capa, rfl, hma, hca⟩ := ha
  obtain ⟨aob, capb, rfl, hmb, hcb⟩ := hb
  unfold maxLen at hma hmb
  by_cases hlen : a.length = b.length
  · have HL : Hid (a.length = b.length) := hlen
    have d0 : ((a.length : Int) != (b.length : Int)) = false := by simp [hlen]
    clear hlen
    go_enter Try.func17, Try.ntmps17
    go_wp2
    go_loopw [5] (fun i wr => ∃ k : Nat, k ≤ a.length ∧ i = .int .i64 k ∧ a.take k = b.take k ∧ Below w.heap.size w wr) (fun i _ => a.length - (intOf i).toNat)
    case atStart => exact ⟨0, Nat.zero_le _, rfl, by simp, Below.refl _ _⟩
    case round =>
      obtain ⟨k, hk, rfl, heq, hbel⟩ := hrel
      have HQ : Hid (a.take k = b.take k) := heq
      clear heq
      by_cases hlt : k < a.length
      · have hlt' : k < b.length := by rw [← HL.out]; exact hlt
        obtain ⟨b1, off1, rfl, hcell1⟩ := hca (List.ne_nil_of_length_pos (by omega))
        obtain ⟨b2, off2, rfl, hcell2⟩ := hcb (List.ne_nil_of_length_pos (by omega))
        have q1 := (hbel.cell (p := ⟨b1, off1 + k, none⟩) (World.block_lt_of_cell? _ _ (hcell1 k hlt))).trans (hcell1 k hlt)
        have q2 := (hbel.cell (p := ⟨b2, off2 + k, none⟩) (World.block_lt_of_cell? _ _ (hcell2 k hlt'))).trans (hcell2 k hlt')
        clear hca hcb hcell1 hcell2
        by_cases hxy : a[k] = b[k]
        · have HS : Hid (a.take (k + 1) = b.take (k + 1)) := by
            show _ = _
            rw [List.take_succ_eq_append_getElem hlt, List.take_succ_eq_append_getElem hlt', HQ.out, hxy]
          rw [hxy] at q1
          generalize b[k] = y at *
          have d1 : (y != y) = false := by simp
          clear hxy
          go_wp2
          go_quiet (fail)
          go_wp2
          go_roundw
          case rel => exact ⟨k + 1, by omega, by go_num, HS.out, bel_drewI hbel _⟩
          case measure => simp [intOf]; omega
        · have HN : Hid (¬ a = b) := by
            intro e
            subst e
            exact hxy rfl
          have d1 : (a[k] != b[k]) = true := by rw [bne_iff_ne]; exact hxy
          generalize a[k] = x at *
          generalize b[k] = y at *
          clear hxy
          go_wp2
          go_quiet (fail)
          go_wp2
          go_ret
          exact ⟨by rw [decide_eq_false HN.out]; rfl, bel_drewI hbel _⟩
      · have HE : Hid (a = b) := by
          have h := HQ.out
          rw [List.take_of_length_le (by omega), List.take_of_length_le (by rw [← HL.out]; omega)] at h
          exact h
        go_wp2
        go_ret
        exact ⟨by rw [decide_eq_true HE.out]; rfl, hbel⟩
  · have HN : Hid (¬ a = b) := fun e => hlen (by rw [e])
    have d0 : ((a.length : Int) != (b.length : Int)) = true := by rw [bne_iff_ne]; omega
    clear hlen hca hcb
    go_enter Try.func17, Try.ntmps17
    go_wp2
    go_ret
    exact ⟨by rw [decide_eq_false HN.out]; rfl, Below.refl _ _⟩

set_option maxRecDepth 100000 in
set_option maxHeartbeats 1000000 in
theorem ixget_any (g b base n : Nat) (kvs : Ix.Gm) (k : Int) (w : World) (h : MI w g b base n kvs) (hk : (Lit.int .i64 k).wf = true) (hn : n < 1000000000) :
    Calls Try.prog 21 #[.pointer (some ⟨g, 0, none⟩), .int .i64 k] w fun e w' => ∃ v', e = .returned v' ∧ Ri w' v' (Ix.get kvs k) ∧ Below w.heap.size w w' := by
  obtain ⟨i0, hi, hz0, hz1, hz2⟩ := info_parts infoI
  have hsz : (Try.prog.info? 3).map (·.size) = some 1 := by rw [hi]; simp [hz1]
  have hc0 : w.cell? ⟨g, 0, none⟩ = some (.map (some b)) := h.box.cell 0 _ rfl
  obtain ⟨v, hrun0, hoi, hle, -, -⟩ := h.at k hk hn
  have HM : Hid (MI w g b base n kvs ∧ (Lit.int .i64 k).wf = true ∧ n < 1000000000) := ⟨h, hk, hn⟩
  obtain ⟨a0, c0, rfl⟩ : ∃ a0, ∃ c0 : Nat, v = .slice a0 (Ix.get kvs k).length c0 := by
    obtain ⟨a0, c0, e, -⟩ := Ri.of hoi.1
    exact ⟨a0, c0, e⟩
  clear h hoi hk
  obtain ⟨zs, hzs⟩ : ∃ zs, zs = Ix.get kvs k := ⟨_, rfl⟩
  rw [← hzs] at hrun0 hle ⊢
  have HZ : Hid (zs = Ix.get kvs k) := hzs
  clear hzs
  go_enter Try.func21, Try.ntmps21
  go_wp2_with (at_make; refine wpList_make_full _ rfl _ _ 35 rfl w.heap.size 3 i0 (.int .i64 0) 1 Try.underlying35 hi hz0 hz1 _ _ _ _ zs.length rfl rfl rfl rfl (by rw [hz2]; omega) (by unfold maxLen; omega) (Nat.le_refl _) ?_)
  intro w1 hown hgr
  have hb1 : Below w.heap.size w w1 := (Below.refl _ w).grown hgr (Nat.le_refl _) (fun k hk => by cases hk)
  have h1 := HM.out.1.kept hb1
  have hc1 : w1.cell? ⟨g, 0, none⟩ = some (.map (some b)) := h1.box.cell 0 _ rfl
  obtain ⟨v1, hrun1, hoi1, -, -, -⟩ := h1.at k HM.out.2.1 HM.out.2.2
  rw [← HZ.out] at hoi1
  obtain ⟨cur, hcur, hcsz⟩ : ∃ cur : Array Value, w1.heap[w.heap.size]? = some (.cells cur 3 (0, 0)) ∧ cur.size = zs.length := by
    rcases hown.2 with ⟨h1, _⟩ | ⟨g, c2, cur, hv, _, hg, _, _, hcs, htk⟩
    · cases h1
    · simp only [Value.slice.injEq, Option.some.injEq, Addr.mk.injEq, and_true, true_and] at hv
      obtain ⟨rfl, rfl⟩ := hv
      exact ⟨cur, hg, by omega⟩
  obtain ⟨ao, cap, rfl, hmx, hc⟩ := Ri.of hoi1.1
  have fin : ∃ n w2, (Builtin.copy_ #[35, 35] 3 #[.slice (some ⟨w.heap.size, 0, none⟩) zs.length zs.length, .slice ao zs.length cap]).run Try.prog w1 = .ok (goInt n) w2 ∧ Ri w2 (.slice (some ⟨w.heap.size, 0, none⟩) zs.length zs.length) zs ∧ Below w.heap.size w w2 := by
    by_cases he : zs = []
    · subst he
      exact ⟨0, w1, run_copy_none (P := Try.prog) w1 35 35 3 3 _ _ _ _ _ _ Try.underlying35 hsz rfl, ⟨_, _, rfl, by simp, fun e => absurd rfl e⟩, hb1⟩
    · obtain ⟨bb, off, rfl, hcell⟩ := hc he
      have hrun := run_copy_row (P := Try.prog) w1 35 35 3 3 w.heap.size 0 zs.length zs.length ⟨bb, off, none⟩ zs.length cap cur 3 (zs.map (Value.int .i64)) Try.underlying35 hsz hcur (by rw [List.length_map]; exact (Nat.min_self _).symm) (by
        intro j u hj
        have hjl : j < zs.length := by have := (List.getElem?_eq_some_iff.1 hj).1; rwa [List.length_map] at this
        rw [Addr.add_lit, hcell j hjl]
        simp [hjl] at hj
        rw [← hj]) (by rw [List.length_map]; omega) (fun v hv => by
        obtain ⟨x, -, rfl⟩ := List.mem_map.1 hv
        rfl)
      refine ⟨_, _, hrun, Ri.of (base := w.heap.size) (e := 3) ⟨by rw [List.length_map, Nat.mul_one], .inr ⟨_, zs.length, _, rfl, Nat.le_refl _, setRow_heap w1 _ _ _ _ _ hcur, Nat.le_refl _, hmx, ?_, ?_⟩⟩, below_setRow hb1 (Nat.le_refl _) _⟩
      · simp [hcsz]
      · simp
  obtain ⟨n2, w2, hrun, R1, R2⟩ := fin
  have HR : Hid (Ri w2 (.slice (some ⟨w.heap.size, 0, none⟩) zs.length zs.length) zs ∧ Below w.heap.size w w2) := ⟨R1, R2⟩
  clear hcur hown hgr hc hcsz R1 R2 hoi1 h1
  go_wp2
  go_ret
  exact ⟨_, rfl, HR.out.1, HR.out.2⟩
end Go.Proofs.Ytceokpklcfmadaa

/-
  IndexOne: the law's walk.
-/
namespace Go.Proofs.Ytceokpklcfmadaa
open Go Go.RowKit Go.ChangeShapes
open Wb

theorem ixbs_take {w : World} {ao : Option Addr} {cap : Nat} {l : List Nat} (h : Bs w (.slice ao l.length cap) l) (n : Nat) (hn : n ≤ l.length) : Bs w (.slice ao n cap) (l.take n) := by
  obtain ⟨ao', cap', e, h1, h2, h3, hc⟩ := h.shape
  simp only [Value.slice.injEq] at e
  obtain ⟨rfl, _, rfl⟩ := e
  refine ⟨⟨ao, cap, by rw [List.length_take, Nat.min_eq_left hn], by rw [List.length_take]; omega, h2, h3, fun hne => ?_⟩, fun x hx => h.good x (List.mem_of_mem_take hx)⟩
  have hl : l ≠ [] := fun e => hne (by rw [e]; simp)
  obtain ⟨b, off, rfl, hcell⟩ := hc hl
  refine ⟨b, off, rfl, fun j hj => ?_⟩
  rw [List.length_take] at hj
  rw [List.getElem_take]
  exact hcell j (by omega)
theorem Ix.encF_error (kvs : Ix.Gm) (all pre : List (Int × Int)) (hp : pre <+: all) (er : Nat) (h : Ix.encF kvs pre = .error er) : Ix.encF kvs all = .error er := by
  obtain ⟨t, rfl⟩ := hp
  unfold Ix.encF at h ⊢
  rw [List.foldlM_append, h]
  rfl
/-- Encode of what Decode reads -/
theorem ixback_any (g b base n : Nat) (l : List Nat) (w : World) (hok : ok l) (hl : l.length ≤ 65536) (h : MI w g b base n (Ix.decodeP l).2) (he : (Ix.decodeP l).1 = 0) (hn : n ≤ l.length) :
    Calls Try.prog 24 #[.pointer (some ⟨g, 0, none⟩)] w fun e w' => ∃ ad, ∃ m c : Nat, e = .returned (.tuple #[.slice ad m c, .int .i64 0]) ∧ Bs w' (.slice ad m c) l ∧ Below w.heap.size w w' := by
  obtain ⟨⟨k, o, hF⟩, h1, h2⟩ := Ix.decode_back l hok he h.ris
  refine (ixenc_any g b base n _ w h (by omega) (by omega) (by omega)).mono fun e w' ⟨hb, hc⟩ => ?_
  rcases hc with ⟨s, e1, ad, m, c, e2, e3⟩ | ⟨er, pre, e1, e2, -⟩
  · rw [hF] at e1
    cases e1
    exact ⟨ad, m, c, e2, e3.bs, hb⟩
  · rw [Ix.encF_error _ _ pre e1 er e2] at hF
    cases hF
end Go.Proofs.Ytceokpklcfmadaa

/-
  Package index: the bytes of an argument.
-/
namespace Go.Proofs.Ytceokpklcfmadaa
open Go.ChangeShapes Go.WideShapes Go.ChangeAt Go.RowKit
open Wb

theorem own : ownKnob Try.prog.godebug = none := by kernel_rfl
theorem laidOut : laidOutB Try.prog = true := by kernel_rfl
theorem cellsTB : Try.prog.cellsOf 5 = 1 := by kernel_rfl
theorem u8_bounds {n : Int} (h : (Lit.int .u8 n).wf = true) : 0 ≤ n ∧ n < 256 := by
  have := bounds_u8 h
  omega

/-- the bytes of a row of numbers -/
theorem bs_of_row {W : World} {a : Addr} {len cap : Nat} {zs : List Int} (hl : len ≤ cap) (hm : cap ≤ maxLen) (hz : zs.length = cap) (hcell : ∀ i, i < zs.length → W.cell? (a.add i) = some (.int .u8 (zs.getD i 0)))
    (hwz : ∀ n ∈ zs, (Lit.int .u8 n).wf = true) : Bs W (.slice (some a) len cap) ((zs.take len).map Int.toNat) := by
  have hlen : ((zs.take len).map Int.toNat).length = len := by simp; omega
  refine ⟨⟨some a, cap, by rw [hlen], by omega, hm, fun e => (by cases e), fun hne => ?_⟩, fun x hx => ?_⟩
  · have hpos : 0 < len := by rw [← hlen]; exact List.length_pos_iff.2 hne
    obtain ⟨b, off, rfl, hc⟩ := ints_at hcell (by omega)
    refine ⟨b, off, rfl, fun j hj => ?_⟩
    rw [hlen] at hj
    rw [hc j (by omega)]
    have hb := u8_bounds (hwz (zs[j]'(by omega)) (List.getElem_mem _))
    have e : zs.getD j 0 = zs[j]'(by omega) := by simp [List.getD, show j < zs.length by omega]
    rw [e]
    simp only [List.getElem_map, List.getElem_take]
    congr 2
    omega
  · obtain ⟨n, hn, rfl⟩ := List.mem_map.1 hx
    have := u8_bounds (hwz n (List.mem_of_mem_take hn))
    omega

set_option maxRecDepth 100000 in
theorem open_bs {H : Type} {enc : TypeId × Value → H} {W : World} {base : Nat} {v : Value} {d : DataW H} {p : List MemPlace} (hv : Value.okWide Try.prog W .any base 44 v)
    (h : DataW.Trod enc Try.prog W 0 (fun _ => true) true 44 v d p) : ∃ l, Bs W v l := by
  obtain ⟨a0, len0, cap0, rfl⟩ := okWide_slice Try.underlying44 hv
  obtain ⟨fuel, hf⟩ := h
  rcases open_ints Try.underlying44 Try.underlying5 cellsTB hf with ⟨hcs, _⟩ | ⟨x, l, c, zs, hcs, _, hl, hm, hz, _, hcell, hwz⟩
  · simp [Value.cells] at hcs
    obtain ⟨rfl, rfl, rfl⟩ := hcs
    exact ⟨[], Bs.nil W⟩
  · simp [Value.cells] at hcs
    obtain ⟨rfl, rfl, rfl⟩ := hcs
    exact ⟨_, bs_of_row hl hm (by simpa using hz) hcell hwz⟩

theorem trod_lt {H : Type} {enc : TypeId × Value → H} {W : World} {t : TypeId} {v : Value} {d : DataW H} {p : List MemPlace} (h : DataW.Trod enc Try.prog W 0 (fun _ => true) true t v d p) : ∀ x ∈ p, x.block < W.heap.size := by
  obtain ⟨m, hm⟩ := h
  exact DataW.trod_lt m _ _ _ hm
end Go.Proofs.Ytceokpklcfmadaa
