/-
  IndexDropped: plain: an index against the list of what it holds.
-/
import Derived.Test.YtceokpklcfmadaaJc1
import Derived.Test.YtceokpklcfmadaaIz1
namespace Go.Proofs.Ytceokpklcfmadaa
open Go Go.RowKit Go.ChangeShapes
open Wb

namespace Ix
theorem total_mem : ∀ (kvs : Gm) (p : Int × List Int), p ∈ kvs → p.2.length ≤ total kvs
  | q :: r, p, h => by
    unfold total
    rw [List.map_cons, List.sum_cons]
    rcases List.mem_cons.1 h with rfl | h
    · omega
    · have := total_mem r p h
      unfold total at this
      omega
theorem encS_len (kvs : Gm) (hg : ∀ k, (get kvs k).length < 18446744073709551616) (s : List Nat × Int × Int) (x : Int × Int) (s' : List Nat × Int × Int) (h : encS kvs s x = .ok s') : s'.1.length ≤ s.1.length + 30 := by
  have h1 := Wn.uint_len10 _ (u64_lt (x.1 - s.2.1))
  have h2 := Wn.uint_len10 _ (hg x.1)
  have h3 := Wn.uint_len10 _ (u64_lt (x.2 - 0))
  have h4 := Wn.uint_len10 _ (u64_lt (x.2 - s.2.2))
  unfold encS at h
  split at h
  · cases h
  · split at h
    · split at h
      · cases h
      · cases h
        simp only [List.length_append]
        omega
    · split at h
      · cases h
      · cases h
        simp only [List.length_append]
        omega
theorem enc_len (kvs : Gm) (hg : ∀ k, (get kvs k).length < 18446744073709551616) : ∀ (l : List (Int × Int)) (s s' : List Nat × Int × Int), l.foldlM (encS kvs) s = .ok s' → s'.1.length ≤ s.1.length + 30 * l.length
  | [], s, s', h => by
    cases h
    exact Nat.le_add_right _ _
  | x :: r, s, s', h => by
    have h0 : (do let s1 ← encS kvs s x; List.foldlM (encS kvs) s1 r) = Except.ok s' := h
    cases h1 : encS kvs s x with
    | error e => rw [h1] at h0; cases h0
    | ok s1 =>
      rw [h1] at h0
      have h2 := enc_len kvs hg r s1 s' h0
      have h3 := encS_len kvs hg s x s1 h1
      rw [List.length_cons]
      omega
theorem encS_err (kvs : Gm) (s : List Nat × Int × Int) (x : Int × Int) (er : Nat) (h : encS kvs s x = .error er) : er = 50 ∨ er = 52 := by
  unfold encS at h
  split at h
  · cases h; exact .inl rfl
  · split at h
    · split at h
      · cases h; exact .inr rfl
      · cases h
    · split at h
      · cases h; exact .inr rfl
      · cases h
theorem enc_err (kvs : Gm) : ∀ (l : List (Int × Int)) (s : List Nat × Int × Int) (er : Nat), l.foldlM (encS kvs) s = .error er → er = 50 ∨ er = 52
  | [], s, er, h => by cases h
  | x :: r, s, er, h => by
    have h0 : (do let s1 ← encS kvs s x; List.foldlM (encS kvs) s1 r) = Except.error er := h
    cases h1 : encS kvs s x with
    | error e =>
      rw [h1] at h0
      cases h0
      exact encS_err kvs s x _ h1
    | ok s1 =>
      rw [h1] at h0
      exact enc_err kvs r s1 er h0
end Ix
/-- Encode, both -/
theorem plain_enc (g b base n : Nat) (ps : List (Int × Int)) (w : World) (h : MI w g b base n (Ix.gml ps)) (hn : n < 1000000000) (hl : ps.length ≤ 1000) (hw : ∀ p ∈ ps, -9223372036854775808 ≤ p.1 ∧ p.1 ≤ 9223372036854775807) :
    Calls Try.prog 24 #[.pointer (some ⟨g, 0, none⟩)] w fun e w' => Below w.heap.size w w' ∧ ((∃ s, Ix.encF (Ix.gml ps) (prs (Ix.gml ps)) = .ok s ∧ ∃ ad, ∃ m c : Nat, e = .returned (.tuple #[.slice ad m c, .int .i64 0]) ∧ Bs w' (.slice ad m c) s.1) ∨ (∃ er : Nat, Ix.encF (Ix.gml ps) (prs (Ix.gml ps)) = .error er ∧ e = .returned (.tuple #[.slice none 0 0, .int .i64 (er : Int)]))) := by
  have hf := Ix.gml_fine ps
  have ha : allE (Ix.gml ps) = prs (Ix.gml ps) := by
    unfold allE
    rw [Ix.within_all]
    intro p hp
    obtain ⟨q, hq, e⟩ := hf.key p hp
    rw [← e]
    exact hw q hq
  refine (ixenc_any g b base n _ w h (by have := hf.len; omega) (by rw [ha, Ix.prs_len, hf.tot]; omega) hn).mono fun e w' ⟨hbl, hc⟩ => ⟨hbl, ?_⟩
  rw [ha] at hc
  rcases hc with ⟨s, e1, ad, m, c, e2, e3⟩ | ⟨er, pre, e1, e2, e3⟩
  · exact .inl ⟨s, e1, ad, m, c, e2, e3.bs⟩
  · exact .inr ⟨er, Ix.encF_error _ _ pre e1 er e2, e3⟩
set_option maxRecDepth 100000 in
set_option maxHeartbeats 4000000 in
theorem ixplain_any (g b base n : Nat) (ps : List (Int × Int)) (v : Value) (w : World) (h : MI w g b base n (Ix.gml ps)) (hp : Pr w v ps) (hn : n < 1000000000) (hl : ps.length ≤ 1000) (hw : ∀ p ∈ ps, (-9223372036854775808 ≤ p.1 ∧ p.1 ≤ 9223372036854775807) ∧ (-9223372036854775808 ≤ p.2 ∧ p.2 ≤ 9223372036854775807)) :
    Calls Try.prog 47 #[.pointer (some ⟨g, 0, none⟩), v] w fun e w' => e = .returned (.bool true) ∧ Below w.heap.size w w' := by
  have hf := Ix.gml_fine ps
  have hlg : ∀ k, (Ix.get (Ix.gml ps) k).length < 18446744073709551616 := fun k => by
    have := Ix.pdel_len ps k
    omega
  have HEN := plain_enc g b base n ps w h hn hl fun p hp => (hw p hp).1
  have HRE : ∀ W, Below w.heap.size w W → Calls Try.prog 43 #[v] W fun e w' => RePost ps W e w' := fun W hW => rixenc_any v ps W (hp.kept hW) (by omega) hw
  have HHO : Hid (∀ W, Below w.heap.size w W → Calls Try.prog 39 #[.pointer (some ⟨g, 0, none⟩), v] W fun e w' => e = .returned (.bool true) ∧ Below W.heap.size W w') := fun W hW => ixholds_any g b base n ps v W (h.kept hW) (hp.kept hW) hn (by omega) fun p hp => (hw p hp).1
  have HHR : Hid (∀ (W : World) (g' b' base' n' : Nat), Below w.heap.size w W → MI W g' b' base' n' (Ix.gml ps) → n' ≤ 60000 → Calls Try.prog 39 #[.pointer (some ⟨g', 0, none⟩), v] W fun e w' => e = .returned (.bool true) ∧ Below W.heap.size W w') := fun W g' b' base' n' hW hm hn' => ixholds_any g' b' base' n' ps v W hm (hp.kept hW) (by omega) (by omega) fun p hp => (hw p hp).1
  have HSB : Hid (∀ (W : World) (va vb : Value) (l : List Nat), Bs W va l → Bs W vb l → Calls Try.prog 44 #[va, vb] W fun e w' => e = .returned (.bool true) ∧ Below W.heap.size W w') := fun W va vb l h1 h2 => (ixsameb_any va vb l l W h1 h2).mono fun e w' ⟨h3, h4⟩ => ⟨by rw [h3, decide_eq_true rfl], h4⟩
  obtain ⟨va, vc, hve, -⟩ := id hp
  cases hR : Ix.encF (Ix.gml ps) (prs (Ix.gml ps)) with
  | error er =>
    have her := Ix.enc_err _ _ _ er hR
    have HEN2 : Hid (Calls Try.prog 24 #[.pointer (some ⟨g, 0, none⟩)] w fun e w' => e = .returned (.tuple #[.slice none 0 0, .int .i64 (er : Int)]) ∧ Below w.heap.size w w') := HEN.mono fun e w' ⟨hb, hc⟩ => by
      rcases hc with ⟨s, e1, -⟩ | ⟨er', e1, e2⟩
      · rw [hR] at e1
        cases e1
      · rw [hR] at e1
        cases e1
        exact ⟨e2, hb⟩
    have HRE2 : Hid (∀ W, Below w.heap.size w W → Calls Try.prog 43 #[v] W fun e w' => e = .returned (.tuple #[.slice none 0 0, .int .i64 (er : Int)]) ∧ Below W.heap.size W w') := fun W hW => (HRE W hW).mono fun e w' ⟨hb, hc⟩ => by
      rcases hc with ⟨s, e1, -⟩ | ⟨er', pre, e1, e2, e3⟩
      · rw [hR] at e1
        cases e1
      · rw [Ix.encF_error _ _ pre e1 er' e2] at hR
        cases hR
        exact ⟨e3, hb⟩
    have hd1 : ((er : Int) != (er : Int)) = false := by simp
    have hd2 : ((er : Int) != 0) = true := by
      simp
      omega
    subst hve
    clear HEN HRE hR her hf hlg h hp
    go_enter Try.func47, Try.ntmps47
    go_wp2_with fail
    refine HEN2.out.mono ?_
    rintro e W1 ⟨rfl, b1⟩
    have H1 : Hid (Below w.heap.size w W1) := b1
    clear b1
    go_wp2_with fail
    refine (HRE2.out W1 H1.out).mono ?_
    rintro e W2 ⟨rfl, b2⟩
    have H2 : Hid (Below w.heap.size w W2) := andThen H1.out b2
    clear b2 H1
    go_wp2_with fail
    refine (HSB.out W2 _ _ [] (Bs.nil _) (Bs.nil _)).mono ?_
    rintro e W3 ⟨rfl, b3⟩
    have H3 : Hid (Below w.heap.size w W3) := andThen H2.out b3
    clear b3 H2
    go_wp2_with fail
    refine (HHO.out W3 H3.out).mono ?_
    rintro e W4 ⟨rfl, b4⟩
    have H4 : Hid (Below w.heap.size w W4) := andThen H3.out b4
    clear b4 H3
    go_wp2_with fail
    go_returns
    exact ⟨rfl, H4.out⟩
  | ok s =>
    obtain ⟨es, he1, he2, he3⟩ := Ix.encF_es _ s hf.ris (fun p hp => ⟨hf.ne p hp, by
      obtain ⟨q, hq, e⟩ := hf.key p hp
      have h9 := (hw q hq).1
      rw [e] at h9
      exact ⟨h9.2, fun x hx => by
        obtain ⟨q, hq, e⟩ := Ix.gml_vals ps p hp x hx
        rw [← e]
        exact (hw q hq).2.2⟩⟩) hR
    have hsl : s.1.length ≤ 60000 := by
      have h9 := Ix.enc_len _ hlg _ _ s hR
      rw [Ix.prs_len, hf.tot] at h9
      have := Wn.uint_len10 (Ix.gml ps).length (by have := hf.len; omega)
      simp only at h9
      omega
    have hdc : Ix.decodeP s.1 = (0, Ix.gml ps) := by
      rw [he3, he1]
      refine Ix.decode_fwd es he2 ?_ fun q hq => ?_
      · have := hf.len
        rw [he1] at this
        simp only [Ix.gm, List.length_map] at this
        omega
      · have h8 := hf.tot
        have h9 : q.2.length ≤ Ix.total (Ix.gml ps) := by
          rw [he1]
          have h7 := Ix.total_mem (Ix.gm es) ((q.1 : Int), Ix.nums q.2) (List.mem_map.2 ⟨q, hq, rfl⟩)
          simpa [Ix.nums] using h7
        omega
    have HEN2 : Hid (Calls Try.prog 24 #[.pointer (some ⟨g, 0, none⟩)] w fun e w' => ∃ ad, ∃ m c : Nat, e = .returned (.tuple #[.slice ad m c, .int .i64 0]) ∧ Bs w' (.slice ad m c) s.1 ∧ Below w.heap.size w w') := HEN.mono fun e w' ⟨hb, hc⟩ => by
      rcases hc with ⟨s', e1, ad, m, c, e2, e3⟩ | ⟨er', e1, e2⟩
      · rw [hR] at e1
        cases e1
        exact ⟨ad, m, c, e2, e3, hb⟩
      · rw [hR] at e1
        cases e1
    have HRE2 : Hid (∀ W, Below w.heap.size w W → Calls Try.prog 43 #[v] W fun e w' => ∃ ad, ∃ m c : Nat, e = .returned (.tuple #[.slice ad m c, .int .i64 0]) ∧ Bs w' (.slice ad m c) s.1 ∧ Below W.heap.size W w') := fun W hW => (HRE W hW).mono fun e w' ⟨hb, hc⟩ => by
      rcases hc with ⟨s', e1, ad, m, c, e2, e3⟩ | ⟨er', pre, e1, e2, e3⟩
      · rw [hR] at e1
        cases e1
        exact ⟨ad, m, c, e2, e3.bs, hb⟩
      · rw [Ix.encF_error _ _ pre e1 er' e2] at hR
        cases hR
    have HDC : Hid (∀ (W : World) (ad : Option Addr) (m c : Nat), Bs W (.slice ad m c) s.1 → Calls Try.prog 25 #[.slice ad m c] W fun e w' => ∃ g5 b5 base5 n5, e = .returned (.tuple #[.pointer (some ⟨g5, 0, none⟩), .int .i64 0]) ∧ MI w' g5 b5 base5 n5 (Ix.gml ps) ∧ n5 ≤ 60000 ∧ Below W.heap.size W w') := fun W ad m c hb2 => (ixdec_any _ s.1 W hb2 (by omega)).mono fun e w' hD => by
      unfold DcPost at hD
      rw [hdc] at hD
      rcases hD with ⟨-, g5, b5, base5, n5, e1, e2, -, e3, e4⟩ | ⟨h0, -⟩
      · exact ⟨g5, b5, base5, n5, e1, e2, by omega, e4⟩
      · exact absurd rfl h0
    subst hve
    clear HEN HRE hR hf hlg h hp hdc he1 he2 he3 hsl
    go_enter Try.func47, Try.ntmps47
    go_wp2_with fail
    refine HEN2.out.mono ?_
    rintro e W1 ⟨ad, m, c, rfl, r1, b1⟩
    have H1 : Hid (Below w.heap.size w W1 ∧ Bs W1 (.slice ad m c) s.1) := ⟨b1, r1⟩
    clear b1 r1
    go_wp2_with fail
    refine (HRE2.out W1 H1.out.1).mono ?_
    rintro e W2 ⟨ad2, m2, c2, rfl, r2, b2⟩
    have H2 : Hid (Below w.heap.size w W2 ∧ Bs W2 (.slice ad m c) s.1 ∧ Bs W2 (.slice ad2 m2 c2) s.1) := ⟨andThen H1.out.1 b2, H1.out.2.kept b2, r2⟩
    clear b2 r2 H1
    go_wp2_with fail
    refine (HSB.out W2 _ _ s.1 H2.out.2.1 H2.out.2.2).mono ?_
    rintro e W3 ⟨rfl, b3⟩
    have H3 : Hid (Below w.heap.size w W3 ∧ Bs W3 (.slice ad m c) s.1) := ⟨andThen H2.out.1 b3, H2.out.2.1.kept b3⟩
    clear b3 H2
    go_wp2_with fail
    refine (HHO.out W3 H3.out.1).mono ?_
    rintro e W4 ⟨rfl, b4⟩
    have H4 : Hid (Below w.heap.size w W4 ∧ Bs W4 (.slice ad m c) s.1) := ⟨andThen H3.out.1 b4, H3.out.2.kept b4⟩
    clear b4 H3
    go_wp2_with fail
    refine (HDC.out W4 ad m c H4.out.2).mono ?_
    rintro e W5 ⟨g5, b5, base5, n5, rfl, m5, hn5, be5⟩
    have H5 : Hid (Below w.heap.size w W5 ∧ MI W5 g5 b5 base5 n5 (Ix.gml ps) ∧ n5 ≤ 60000) := ⟨andThen H4.out.1 be5, m5, hn5⟩
    clear be5 m5 hn5 H4
    go_wp2_with fail
    refine (HHR.out W5 g5 b5 base5 n5 H5.out.1 H5.out.2.1 H5.out.2.2).mono ?_
    rintro e W6 ⟨rfl, b6⟩
    have H6 : Hid (Below w.heap.size w W6) := andThen H5.out.1 b6
    clear b6 H5
    go_wp2_with fail
    go_returns
    exact ⟨rfl, H6.out⟩
end Go.Proofs.Ytceokpklcfmadaa
