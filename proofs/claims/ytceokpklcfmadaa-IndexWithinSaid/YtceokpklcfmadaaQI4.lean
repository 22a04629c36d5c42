import Derived.Test.YtceokpklcfmadaaQI3
/-
  Package index: Decode.
-/
namespace Go.Proofs.Ytceokpklcfmadaa
open Go Go.RowKit Go.ChangeShapes
open Wb

namespace Ix
theorem offP_len (l : List Nat) : ∀ (c : Nat) (f : Bool) (p off : Nat) (acc : List Nat), p ≤ l.length → (offP l c f p off acc).2.2.length + p ≤ acc.length + (offP l c f p off acc).2.1 ∧ (offP l c f p off acc).2.1 ≤ l.length ∧ p ≤ (offP l c f p off acc).2.1 ∧ ((offP l c f p off acc).1 = 0 → (offP l c f p off acc).2.2.length = acc.length + c)
  | 0, _, p, _, acc, hp => ⟨Nat.le_refl _, hp, Nat.le_refl _, fun _ => rfl⟩
  | c + 1, f, p, off, acc, hp => by
    have h := nm_le l p hp
    rw [offP]
    split
    · rename_i h0
      exact ⟨Nat.le_refl _, hp, Nat.le_refl _, fun e => absurd e h0⟩
    · rename_i h0
      have h0 : (nm l p).2.2 = 0 := by omega
      split
      · exact ⟨by show acc.length + p ≤ acc.length + (nm l p).2.1; omega, h.2.1, h.1, fun e => by cases e⟩
      · have ih := offP_len l c false (nm l p).2.1 (off + (nm l p).1) (acc ++ [off + (nm l p).1]) h.2.1
        have h9 := h.2.2 h0
        rw [List.length_append, List.length_singleton] at ih
        exact ⟨by omega, ih.2.1, by omega, fun e => by have := ih.2.2.2 e; omega⟩
theorem offsP_len (l : List Nat) (p : Nat) (hp : p ≤ l.length) : (offsP l p).2.2.length + p ≤ (offsP l p).2.1 ∧ (offsP l p).2.1 ≤ l.length ∧ ((offsP l p).1 = 0 → (offsP l p).2.2 ≠ []) := by
  have h := nm_le l p hp
  unfold offsP
  split
  · rename_i h0
    exact ⟨by show 0 + p ≤ p; omega, hp, fun e => absurd e h0⟩
  · split
    · exact ⟨by show 0 + p ≤ (nm l p).2.1; omega, h.2.1, fun e => by cases e⟩
    · rename_i h1 h2
      have ih := offP_len l (nm l p).1 true (nm l p).2.1 0 [] h.2.1
      rw [List.length_nil] at ih
      refine ⟨by omega, ih.2.1, fun e e2 => ?_⟩
      have h9 := ih.2.2.2 e
      rw [e2] at h9
      simp at h9
      omega
theorem keyP_le (l : List Nat) (p before : Nat) (hp : p ≤ l.length) : p ≤ (keyP l p before).2.1 ∧ (keyP l p before).2.1 ≤ l.length ∧ ((keyP l p before).2.2 = 0 → before < (keyP l p before).1 ∧ (before ≤ 9223372036854775807 → (keyP l p before).1 ≤ 9223372036854775807)) := by
  have h := nm_le l p hp
  unfold keyP
  split
  · rename_i h0
    exact ⟨Nat.le_refl _, hp, fun e => absurd e h0⟩
  · split
    · exact ⟨h.1, h.2.1, fun e => by cases e⟩
    · rename_i h1 h2
      refine ⟨h.1, h.2.1, fun _ => ⟨?_, fun hb => ?_⟩⟩
      · show before < before + (nm l p).1
        have : (nm l p).1 ≠ 0 := fun e => h2 (.inl e)
        omega
      · show before + (nm l p).1 ≤ _
        have : ¬ 9223372036854775807 - before < (nm l p).1 := fun e => h2 (.inr e)
        omega
/-- keys with their offsets, one by one -/
def decP (l : List Nat) : Nat → Nat → Nat → Gm → Nat × Gm
  | 0, p, _, kvs => if p = l.length then (0, kvs) else (53, [])
  | c + 1, p, key, kvs => if (keyP l p key).2.2 ≠ 0 then ((keyP l p key).2.2, []) else if (offsP l (keyP l p key).2.1).1 ≠ 0 then ((offsP l (keyP l p key).2.1).1, []) else decP l c (offsP l (keyP l p key).2.1).2.1 (keyP l p key).1 (kvs ++ [(((keyP l p key).1 : Int), nums (offsP l (keyP l p key).2.1).2.2)])
def decodeP (l : List Nat) : Nat × Gm := if (nm l 0).2.2 ≠ 0 then ((nm l 0).2.2, []) else decP l (nm l 0).1 (nm l 0).2.1 0 []
end Ix
def DcPost (l : List Nat) (w : World) (e : Ending) (w' : World) : Prop := ((Ix.decodeP l).1 = 0 ∧ ∃ g b base n, e = .returned (.tuple #[.pointer (some ⟨g, 0, none⟩), .int .i64 0]) ∧ MI w' g b base n (Ix.decodeP l).2 ∧ w.heap.size ≤ b ∧ n ≤ l.length ∧ Below w.heap.size w w') ∨ ((Ix.decodeP l).1 ≠ 0 ∧ e = .returned (.tuple #[.pointer none, .int .i64 ((Ix.decodeP l).1 : Int)]) ∧ Below w.heap.size w w')
set_option maxRecDepth 100000 in
set_option maxHeartbeats 4000000 in
theorem ixdec_any (bv : Value) (l : List Nat) (w : World) (hb : Bs w bv l) (hl : l.length ≤ 10000000) :
    Calls Try.prog 25 #[bv] w fun e w' => DcPost l w e w' := by
  have HNM : Hid (∀ (q : Nat) (W' : World), q ≤ l.length → RI w bv w.heap.size q W' → Calls Try.prog 53 #[.pointer (some ⟨w.heap.size, 0, none⟩)] W' fun e W'' => e = .returned (.tuple #[.int .u64 ((Ix.nm l q).1 : Int), .int .i64 ((Ix.nm l q).2.2 : Int)]) ∧ RI w bv w.heap.size (Ix.nm l q).2.1 W'' ∧ W'.grownBy W'' (some w.heap.size)) := fun q W' hq hR => (ixnum_any w bv l w.heap.size q W' hb (by omega) hq hR).mono fun e W'' ⟨v, p', er, e1, e2, e3, e4⟩ => by rw [e1]; exact ⟨e2, e3, e4⟩
  have HKY : Hid (∀ (q before : Nat) (W' : World), q ≤ l.length → before ≤ 9223372036854775807 → RI w bv w.heap.size q W' → Calls Try.prog 54 #[.pointer (some ⟨w.heap.size, 0, none⟩), .int .i64 (before : Int)] W' fun e W'' => KyPost l w bv w.heap.size q before W' e W'') := fun q before W' hq hbf hR => ixkey_any w bv l w.heap.size q before W' hb (by omega) hq hbf hR
  have HOF : Hid (∀ (g b base n : Nat) (kvs : Ix.Gm) (key q : Nat) (W' : World), q ≤ l.length → RI w bv w.heap.size q W' → MI W' g b base n kvs → w.heap.size ≠ g → w.heap.size < b → (∀ p ∈ kvs, p.1 < (key : Int)) → key ≤ 9223372036854775807 → n ≤ 10000000 → Calls Try.prog 55 #[.pointer (some ⟨w.heap.size, 0, none⟩), .pointer (some ⟨g, 0, none⟩), .int .i64 (key : Int)] W' fun e W'' => OfPost l w bv w.heap.size g b base n kvs key q W' e W'') := fun g b base n kvs key q W' hq hR hM h1 h2 hk hkl hn => ixoffs_any w bv l w.heap.size g b base n kvs key q W' hb hl hq hR hM h1 (by omega) (by have := hM.blt.1; omega) (by omega) hk hkl hn
  have HLT := Ix.nm_lt l hb.good 0 (Nat.zero_le _)
  have HNL : Hid ((Ix.nm l 0).2.1 ≤ l.length) := (Ix.nm_le l 0 (Nat.zero_le _)).2.1
  obtain ⟨ao, cap, rfl, -⟩ := hb.shape
  have HW0 : Hid (∀ W, W = w.alloc (.cells #[.slice ao l.length cap, .int .i64 0] 112) → RI w (.slice ao l.length cap) w.heap.size 0 W) := fun W e => by
    subst e
    exact ⟨lb_new w [.slice ao l.length cap, .int .i64 0] 112, up0 _ _, Nat.le_refl _⟩
  obtain ⟨A, hA⟩ : ∃ A, Ix.decodeP l = A := ⟨_, rfl⟩
  unfold DcPost
  rw [hA]
  unfold Ix.decodeP at hA
  have HL : Hid (l.length ≤ 10000000) := hl
  clear hb
  go_enter Try.func25, Try.ntmps25
  go_upto_region 2 with fail
  obtain ⟨W0, hW0⟩ : ∃ W0, W0 = w.alloc (.cells #[.slice ao l.length cap, .int .i64 0] 112) := ⟨_, rfl⟩
  have HR0 : Hid (RI w (.slice ao l.length cap) w.heap.size 0 W0) := HW0.out _ hW0
  rw [← hW0]
  clear hW0 HW0
  have HN0 : Hid (Calls Try.prog 53 #[.pointer (some ⟨w.heap.size, 0, none⟩)] W0 fun e W'' => e = .returned (.tuple #[.int .u64 ((Ix.nm l 0).1 : Int), .int .i64 ((Ix.nm l 0).2.2 : Int)]) ∧ RI w (.slice ao l.length cap) w.heap.size (Ix.nm l 0).2.1 W'' ∧ W0.grownBy W'' (some w.heap.size)) := HNM.out 0 W0 (Nat.zero_le _) HR0.out
  obtain ⟨cnt, q0, er, hnm⟩ : ∃ v9 q9 er9, Ix.nm l 0 = (v9, q9, er9) := ⟨_, _, _, rfl⟩
  rw [hnm] at hA HLT HN0 HNL
  simp only at hA HLT HN0 HNL
  clear hnm HNM
  by_cases h0 : er ≠ 0
  · rw [if_pos h0] at hA
    have HA : Hid ((er, []) = A ∧ er ≠ 0) := ⟨hA, h0⟩
    have hd : ((er : Int) != 0) = true := by simp; exact h0
    clear h0 hA
    go_wp2_with fail
    refine HN0.out.mono ?_
    rintro e W1 ⟨rfl, r1, g1⟩
    have HB : Hid (Below w.heap.size w W1) := r1.bel
    clear r1 g1 HN0
    go_wp2_with fail
    go_returns
    rw [← HA.out.1]
    exact .inr ⟨HA.out.2, rfl, HB.out⟩
  · obtain rfl : er = 0 := by omega
    rw [if_neg (by simp)] at hA
    have HA : Hid (Ix.decP l cnt q0 0 [] = A) := hA
    clear hA h0
    go_wp2_with fail
    refine HN0.out.mono ?_
    rintro e W1 ⟨rfl, r1, g1⟩
    have HR1 : Hid (RI w (.slice ao l.length cap) w.heap.size q0 W1) := r1
    have HNW : Hid (Calls Try.prog 9 #[] W1 fun e w' => e = .returned (.pointer (some ⟨W1.heap.size + 1, 0, none⟩)) ∧ MI w' (W1.heap.size + 1) W1.heap.size (W1.heap.size + 2) 0 [] ∧ Below W1.heap.size W1 w' ∧ ∀ q, ¬ Mrow w' W1.heap.size q) := ixnew_any W1
    clear r1 g1 HN0
    go_wp2_with fail
    refine HNW.out.mono ?_
    rintro e W2 ⟨rfl, m2, b2, -⟩
    obtain ⟨g, b, base, hg, hbb, hgb⟩ : ∃ g b base, g = W1.heap.size + 1 ∧ b = W1.heap.size ∧ base = W1.heap.size + 2 := ⟨_, _, _, rfl, rfl, rfl⟩
    have HR2 : Hid (RI w (.slice ao l.length cap) w.heap.size q0 W2 ∧ MI W2 g b base 0 []) := ⟨⟨HR1.out.box.kept b2, andThen HR1.out.bel b2, Nat.le_refl _⟩, by rw [hg, hbb, hgb]; exact m2⟩
    have HC : Hid (w.heap.size ≠ g ∧ w.heap.size < b) := by
      have h8 := HR1.out.box.lt
      refine ⟨?_, ?_⟩ <;> omega
    rw [← hg]
    clear m2 b2 HNW HR1 hg hbb hgb
    go_wp2_with fail
    go_loopw [20, 8] (fun iv kv wr => ∃ (i q key n : Nat) (kvs : Ix.Gm), i ≤ cnt ∧ iv = .int .u64 (i : Int) ∧ kv = .int .i64 (key : Int) ∧ Ix.decP l (cnt - i) q key kvs = A ∧ RI w (.slice ao l.length cap) w.heap.size q wr ∧ MI wr g b base n kvs ∧ (∀ p ∈ kvs, p.1 ≤ (key : Int)) ∧ key ≤ 9223372036854775807 ∧ q ≤ l.length ∧ n ≤ q) (fun iv _ _ => cnt - (intOf iv).toNat)
    case atStart => exact ⟨0, q0, 0, 0, [], Nat.zero_le _, rfl, rfl, HA.out, HR2.out.1, HR2.out.2, (fun p hp => nomatch hp), by omega, HNL.out, Nat.zero_le _⟩
    case round =>
      clear HA HR2
      obtain ⟨i, q, key, n, kvs, hi, rfl, rfl, hA, hri, hmi, hks, hkl, hq, hnq⟩ := hrel
      by_cases hlt : i < cnt
      · have HK1 : Hid (Calls Try.prog 54 #[.pointer (some ⟨w.heap.size, 0, none⟩), .int .i64 (key : Int)] wr fun e W'' => KyPost l w (.slice ao l.length cap) w.heap.size q key wr e W'') := HKY.out q key wr hq hkl hri
        rw [show cnt - i = (cnt - (i + 1)) + 1 by omega, Ix.decP] at hA
        have hkp := Ix.keyP_le l q key hq
        unfold KyPost at HK1
        obtain ⟨k2, q2, e2, hkk⟩ : ∃ v9 q9 er9, Ix.keyP l q key = (v9, q9, er9) := ⟨_, _, _, rfl⟩
        rw [hkk] at hA hkp HK1
        simp only at hA hkp HK1
        have HM : Hid (MI wr g b base n kvs ∧ (∀ p ∈ kvs, p.1 ≤ (key : Int)) ∧ q ≤ q2 ∧ q2 ≤ l.length ∧ n ≤ q ∧ (e2 = 0 → key < k2 ∧ k2 ≤ 9223372036854775807)) := ⟨hmi, hks, hkp.1, hkp.2.1, hnq, fun e => ⟨(hkp.2.2 e).1, (hkp.2.2 e).2 hkl⟩⟩
        have hw5 : IntKind.u64.wrap ((i : Int) + 1) = (i : Int) + 1 := IntWalk.u64_in _ (by omega)
        clear hkk hkp hri hmi hks hnq hq
        by_cases h0 : e2 ≠ 0
        · rw [if_pos h0] at hA
          have HA : Hid ((e2, []) = A ∧ e2 ≠ 0) := ⟨hA, h0⟩
          have hd : ((e2 : Int) != 0) = true := by simp; exact h0
          clear h0 hA
          go_wp2_with fail
          refine HK1.out.mono ?_
          rintro e W3 ⟨rfl, r3, g3⟩
          have HB : Hid (Below w.heap.size w W3) := r3.bel
          clear r3 g3 HK1
          go_wp2_with fail
          go_returns
          rw [← HA.out.1]
          exact .inr ⟨HA.out.2, rfl, HB.out⟩
        · obtain rfl : e2 = 0 := by omega
          rw [if_neg (by simp)] at hA
          have HM2 : Hid (key < k2 ∧ k2 ≤ 9223372036854775807) := HM.out.2.2.2.2.2 rfl
          have HOL := Ix.offsP_len l q2 HM.out.2.2.2.1
          have HOS : Hid (∀ W3, RI w (.slice ao l.length cap) w.heap.size q2 W3 → wr.grownBy W3 (some w.heap.size) → Calls Try.prog 55 #[.pointer (some ⟨w.heap.size, 0, none⟩), .pointer (some ⟨g, 0, none⟩), .int .i64 (k2 : Int)] W3 fun e W'' => OfPost l w (.slice ao l.length cap) w.heap.size g b base n kvs k2 q2 W3 e W'') := fun W3 r3 g3 => HOF.out g b base n kvs k2 q2 W3 HM.out.2.2.2.1 r3 (HM.out.1.frame g3 (fun e => by have := HC.out.2; have := Option.some.inj e; omega) (fun e => HC.out.1 (Option.some.inj e)) (fun k e hm => by
            have h7 := (HM.out.1.row hm).1
            have h8 := HM.out.1.blt.1
            have h9 := HC.out.2
            have := Option.some.inj e
            omega)) HC.out.1 HC.out.2 (fun p hp => by
            have h7 := HM.out.2.1 p hp
            have h8 := HM2.out.1
            omega) HM2.out.2 (by have := HM.out; have := HL.out; omega)
          unfold OfPost at HOS
          obtain ⟨e3, q3, acc, hof⟩ : ∃ v9 q9 er9, Ix.offsP l q2 = (v9, q9, er9) := ⟨_, _, _, rfl⟩
          rw [hof] at hA HOL HOS
          simp only at hA HOL HOS
          have HO3 : Hid (acc.length + q2 ≤ q3 ∧ q3 ≤ l.length ∧ (e3 = 0 → acc ≠ [])) := HOL
          clear hof HOL h0
          by_cases h3 : e3 ≠ 0
          · rw [if_pos h3] at hA
            have HA : Hid ((e3, []) = A ∧ e3 ≠ 0) := ⟨hA, h3⟩
            have hd : ((e3 : Int) != 0) = true := by simp; exact h3
            clear h3 hA
            go_wp2_with fail
            refine HK1.out.mono ?_
            rintro e W3 ⟨rfl, r3, g3⟩
            have HCL : Hid (Calls Try.prog 55 #[.pointer (some ⟨w.heap.size, 0, none⟩), .pointer (some ⟨g, 0, none⟩), .int .i64 (k2 : Int)] W3 fun e W'' => e = .returned (.int .i64 (e3 : Int)) ∧ OS w (.slice ao l.length cap) w.heap.size g b base n kvs k2 W3 q3 acc W'') := HOS.out W3 r3 g3
            clear r3 g3 HK1 HOS
            go_wp2_with fail
            refine HCL.out.mono ?_
            rintro e W4 ⟨rfl, s4⟩
            have HB : Hid (Below w.heap.size w W4) := s4.ri.bel
            clear s4 HCL
            go_wp2_with fail
            go_returns
            rw [← HA.out.1]
            exact .inr ⟨HA.out.2, rfl, HB.out⟩
          · obtain rfl : e3 = 0 := by omega
            rw [if_neg (by simp)] at hA
            have HNE : Hid (acc ≠ []) := HO3.out.2.2 rfl
            have HA : Hid (Ix.decP l (cnt - (i + 1)) q3 k2 (kvs ++ [((k2 : Int), Ix.nums acc)]) = A) := hA
            have HO4 : Hid (acc.length + q2 ≤ q3 ∧ q3 ≤ l.length) := ⟨HO3.out.1, HO3.out.2.1⟩
            clear h3 hA HO3
            go_wp2_with fail
            refine HK1.out.mono ?_
            rintro e W3 ⟨rfl, r3, g3⟩
            have HCL : Hid (Calls Try.prog 55 #[.pointer (some ⟨w.heap.size, 0, none⟩), .pointer (some ⟨g, 0, none⟩), .int .i64 (k2 : Int)] W3 fun e W'' => e = .returned (.int .i64 0) ∧ OS w (.slice ao l.length cap) w.heap.size g b base n kvs k2 W3 q3 acc W'') := HOS.out W3 r3 g3
            clear r3 g3 HK1 HOS
            go_wp2_with fail
            refine HCL.out.mono ?_
            rintro e W4 ⟨rfl, s4⟩
            have HS4 : Hid (RI w (.slice ao l.length cap) w.heap.size q3 W4 ∧ MI W4 g b base (n + acc.length) (kvs ++ [((k2 : Int), Ix.nums acc)])) := ⟨s4.ri, by
              have := s4.mi
              unfold Ix.withK at this
              rw [if_neg HNE.out] at this
              exact this⟩
            clear s4 HCL
            go_wp2_with fail
            go_roundw
            case rel => exact ⟨i + 1, q3, k2, n + acc.length, kvs ++ [((k2 : Int), Ix.nums acc)], by omega, by go_num, rfl, HA.out, HS4.out.1, HS4.out.2, fun p hp => by
              rcases List.mem_append.1 hp with hp | hp
              · have h7 := HM.out.2.1 p hp
                have h8 := HM2.out.1
                omega
              · rw [List.mem_singleton.1 hp]
                exact Int.le_refl _, HM2.out.2, HO4.out.2, by have := HO4.out.1; have := HM.out; omega⟩
            case measure => simp [intOf]; omega
      · obtain rfl : cnt = i := by omega
        rw [Nat.sub_self, Ix.decP] at hA
        have x1 := hri.box.cell 1 _ rfl
        have HR3 : Hid (MI wr g b base n kvs ∧ n ≤ l.length ∧ Below w.heap.size w wr ∧ w.heap.size ≤ b) := ⟨hmi, by omega, hri.bel, by have := HC.out.2; omega⟩
        by_cases hqe : q = l.length
        · rw [if_pos hqe] at hA
          have hd : ((q : Int) != (l.length : Int)) = false := by rw [hqe]; simp
          have HA : Hid ((0, kvs) = A) := hA
          clear hA hqe hri hmi hks hnq hq
          go_wp2_with fail
          go_returns
          rw [← HA.out]
          exact .inl ⟨rfl, g, b, base, n, rfl, HR3.out.1, HR3.out.2.2.2, HR3.out.2.1, HR3.out.2.2.1⟩
        · rw [if_neg hqe] at hA
          have hd : ((q : Int) != (l.length : Int)) = true := by simp; omega
          have HA : Hid ((53, []) = A) := hA
          clear hA hqe hri hmi hks hnq hq
          go_wp2_with fail
          go_returns
          rw [← HA.out]
          exact .inr ⟨by decide, rfl, HR3.out.2.2.1⟩
end Go.Proofs.Ytceokpklcfmadaa
