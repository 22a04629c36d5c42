/-
  WireOwn: the law's walk.
-/
import Derived.Test.YtppgijgmhjfdfaaDoorWo3
namespace Go.Proofs.YtppgijgmhjfdfaaDoor
open Go Go.RowKit
open Wb

theorem rfAt_len (l : List Nat) (p q n : Nat) : (rfAt l p q n).1.length ≤ l.length := by
  unfold rfAt
  by_cases h1 : n = 0
  · rw [if_pos h1]; exact Nat.zero_le _
  rw [if_neg h1]
  by_cases h2 : 1048576 < n
  · rw [if_pos h2]; exact Nat.zero_le _
  rw [if_neg h2]
  by_cases h3 : l.length < q + n + 5
  · rw [if_pos h3]; exact Nat.zero_le _
  rw [if_neg h3]
  by_cases h4 : l.getD (q + n + 4) 0 ≠ 165
  · rw [if_pos h4]; exact Nat.zero_le _
  rw [if_neg h4]
  by_cases h5 : sum4 (l.drop (q + n)) ≠ Wm.crc ((l.take (q + n)).drop p)
  · rw [if_pos h5]; exact Nat.zero_le _
  rw [if_neg h5]
  simp only [List.length_drop, List.length_take]
  omega
theorem rf_len (l : List Nat) (p : Int) : (rf l p).1.length ≤ l.length := by
  unfold rf
  split
  · exact Nat.zero_le _
  · exact rfAt_len _ _ _ _
theorem rb_len (l : List Nat) (p m : Int) : (rb l p m).1.length ≤ l.length := by
  unfold rb
  split
  · exact Nat.zero_le _
  · split
    · exact Nat.zero_le _
    · split
      · exact Nat.zero_le _
      · split
        · exact Nat.zero_le _
        · simp only [List.length_drop, List.length_take]
          omega
theorem rfs_each : ∀ (f : Nat) (l : List Nat) (p : Int), ∀ c ∈ (rfs f l p).1, c.length ≤ l.length
  | 0, _, _, c, hc => nomatch hc
  | f + 1, l, p, c, hc => by
    rw [rfs] at hc
    split at hc
    · rcases List.mem_cons.1 hc with rfl | hc
      · exact rf_len l p
      · exact rfs_each f l _ c hc
    · nomatch hc
theorem flatF_len (gs : List (List Nat)) : (gs.flatMap frU).length ≤ gs.flatten.length + 8 * gs.length := by
  induction gs with
  | nil => simp
  | cons x gs ih =>
    have := (frU_len x).2
    simp only [List.flatMap_cons, List.flatten_cons, List.length_append, List.length_cons]
    omega
theorem ansO_len (gs : List (List Nat)) : (gs.flatMap ansOne).length = 4 * gs.length := by
  induction gs with
  | nil => rfl
  | cons x gs ih =>
    simp only [List.flatMap_cons, List.length_append, List.length_cons, ih, ansOne, List.length_nil]
    omega
theorem each_flat {gs : List (List Nat)} {x : List Nat} (h : x ∈ gs) : x.length ≤ gs.flatten.length := by
  obtain ⟨p, q, e⟩ := List.append_of_mem h
  rw [e]
  simp
  omega
/-- the answers are short -/
theorem ansL_short (u : Nat) (i : Int) (hu : u < 18446744073709551616) (hi0 : -9223372036854775808 ≤ i) (hi1 : i ≤ 9223372036854775807) (gs : List (List Nat)) (hf : gs.flatten.length ≤ 4194304) (h5 : gs.length ≤ 5000) :
    (∀ c ∈ ansL u i gs (gs.flatMap frU), c.length ≤ 8388608) ∧ (ansL u i gs (gs.flatMap frU)).length ≤ 4300000 := by
  have hl := flatF_len gs
  have h0 := rfs_len ((gs.flatMap frU).length + 1) (gs.flatMap frU) 0
  have ho := ansO_len gs
  refine ⟨fun c hc => ?_, by unfold ansL; simp only [List.length_append, List.length_cons, List.length_nil]; omega⟩
  unfold ansL at hc
  rcases List.mem_append.1 hc with hc | hc
  · rcases List.mem_append.1 hc with hc | hc
    · have h1 := Wn.uint_len10 u hu
      have h2 := Wn.uint_len10 (zz i) (zz_lt i hi0 hi1)
      simp only [List.mem_cons, List.not_mem_nil, or_false] at hc
      rcases hc with rfl | rfl
      · omega
      · omega
    · obtain ⟨x, hx, hm⟩ := List.mem_flatMap.1 hc
      have h1 := each_flat hx
      have h2 := (frU_len x).1
      have h3 := rf_len (frU x) 0
      have h4 : (Wn.uint x.length ++ x).length ≤ 4194404 := by
        have := Wn.uint_len10 x.length (by omega)
        rw [List.length_append]
        omega
      have h5 := rb_len (Wn.uint x.length ++ x) 0 ((Wn.uint x.length ++ x).length : Int)
      simp only [ansOne, List.mem_cons, List.not_mem_nil, or_false] at hm
      rcases hm with rfl | rfl | rfl | rfl
      · omega
      · omega
      · omega
      · omega
  · have := rfs_each _ _ _ c hc
    omega
/-- rows that no later write reaches -/
theorem ownP_frame {B : Nat} {w w' : World} {v : Value} {ls : List (List Nat)} (h : OwnP B w v ls) (hs : ∀ g, B ≤ g → g < w.heap.size → w'.heap[g]? = w.heap[g]?) : OwnP B w' v ls := by
  obtain ⟨vs, h1, h2, h3⟩ := h
  exact ⟨vs, owns_block h1 fun g hg => hs g (World.ownsRow.lt h1 g hg).1 (World.ownsRow.lt h1 g hg).2, h2, fun j a b => own_kept2 (h3 j a b) fun g hg => hs g (World.ownsRow.lt (h3 j a b).row g hg).1 (World.ownsRow.lt (h3 j a b).row g hg).2⟩
set_option maxHeartbeats 2000000 in
theorem keptE_any (v : Value) (ls : List (List Nat)) (w : World) (h : Ps w v ls) (hall : ∀ x ∈ ls, x.length ≤ 8388608) (hnl : ls.length ≤ 100000000) :
    Calls Tryd.prog 8 #[v] w fun e w' => ∃ v', e = .returned v' ∧ OwnP w.heap.size w' v' ls ∧ Below w.heap.size w w' := by
  have hin := info22
  obtain ⟨ao, cap, rfl, hmx, hc⟩ := h.shape
  unfold maxLen at hmx
  clear h
  go_enter Tryd.func8, Tryd.ntmps8
  go_wp2
  go_loopw [3, 4] (fun o i wr => ∃ k : Nat, k ≤ ls.length ∧ i = .int .i64 (k : Int) ∧ OwnP w.heap.size wr o (ls.take k) ∧ Below w.heap.size w wr) (fun _ i _ => ls.length - (intOf i).toNat)
  case atStart => exact ⟨0, Nat.zero_le _, rfl, ⟨[], Row.nil _ _, rfl, fun j h => absurd h (Nat.not_lt_zero _)⟩, Below.refl _ _⟩
  case round =>
    obtain ⟨k, hk, rfl, hown, hbel⟩ := hrel
    by_cases hlt : k < ls.length
    · obtain ⟨b, off, rfl, hcell⟩ := hc (List.ne_nil_of_length_pos (by omega))
      obtain ⟨vk, hck, hbk⟩ := hcell k hlt
      have HB : Hid (∀ w', Below w.heap.size w w' → w'.cell? ⟨b, off + k, none⟩ = some vk) := fun w' hb => (hb.cell (p := ⟨b, off + k, none⟩) (World.block_lt_of_cell? _ _ hck)).trans hck
      have H1 : Hid (∀ w', Below w.heap.size w w' → Bs w' vk ls[k]) := fun w' hb => hbk.kept hb
      have q1 := HB.out wr hbel
      obtain ⟨aok, capk, rfl, hlk, hmk, hx1, hx2⟩ := hbk.shape
      have hkl : ls[k].length ≤ 8388608 := hall _ (List.getElem_mem hlt)
      have HS : Hid (ls.take (k + 1) = ls.take k ++ [ls[k]]) := List.take_succ_eq_append_getElem hlt
      have hdl : (ls.take k).length = k := by simp; omega
      obtain ⟨vs, hrow, hvl, hel⟩ := hown
      have hvs : vs.length ≤ 5000000000 := by omega
      have HR : Hid (∀ w', Below wr.heap.size wr w' → Row w.heap.size w' u3 vs) := fun w' hb => hrow.kept hb
      have HE : Hid (∀ w', Below wr.heap.size wr w' → ∀ j (h : j < vs.length) (h2 : j < (ls.take k).length), Own w.heap.size w' vs[j] (ls.take k)[j]) := fun w' hb j a b => (hel j a b).kept hb
      have hsz := hbel.size
      clear hx1 hx2 hc hcell hbk hck hel hrow
      generalize ls[k] = x at *
      generalize ls.take k = done at *
      go_wp2
      go_region_held_law (fun w' => w'.cell? ⟨b, off + k, none⟩ = some (.slice aok x.length capk)) (first | go_keep | (exact HB.out _ (andThen (Below.drew hbel) b2)) | (exact HB.out _ ((up (andThen (Below.drew hbel) b2) _).trans b3)))
        (first
          | (go_at_call 21; refine (rwhole_any _ x _ ?_ ?_).mono ?_; (exact H1.out _ (Below.drew hbel)); (exact Nat.le_trans hkl (by decide)); rintro e w2 ⟨v2, rfl, ho2, b2⟩; obtain ⟨ao2, cap2, rfl, _⟩ := ho2.bs.shape)
          | (refine step_push rfl (.tmp 11) (.tmp 22) 23 rfl w.heap.size hin Tryd.underlying23 u3 vs (by simp [Act.eval]) (HR.out _ (up (andThen ((Below.refl _ wr).drew) b2) _)) w2.heap.size (.slice ao2 x.length cap2) (by simp [Act.eval]) (World.cell?_alloc_new w2 _ _ 0) rfl hvs (Nat.le_trans (andThen (Below.drew hbel) b2).size (by simp)) ?_; intro v3 w3 hr3 b3 hg3))
      have R : Hid (OwnP w.heap.size w3 v3 (ls.take (k + 1)) ∧ Below w.heap.size w w3) := by
        have hb2 := andThen (Below.refl _ wr).drew b2
        rw [HS.out]
        refine ⟨⟨vs ++ [.slice ao2 x.length cap2], hr3, by simp [hvl], fun j a b => ?_⟩, (up (andThen (Below.drew hbel) b2) _).trans b3⟩
        by_cases hj : j < vs.length
        · rw [List.getElem_append_left hj, List.getElem_append_left (by omega)]
          exact Own.grown (HR.out _ (up hb2 _)) (HE.out _ (up hb2 _) j hj (by omega)) hg3
        · have ej : j = vs.length := by simp at a; omega
          subst ej
          rw [List.getElem_append_right (Nat.le_refl _), List.getElem_append_right (by omega)]
          simp only [hvl, Nat.sub_self, List.getElem_cons_zero]
          exact Own.grown (HR.out _ (up hb2 _)) ((ho2.mono hsz).kept (up0 _ _)) hg3
      clear hr3 b3 hg3 HR HE HB H1 q1 hbel b2 ho2 HS
      go_wp2
      go_roundw
      case rel => exact ⟨k + 1, by omega, by go_num, R.out.1, R.out.2⟩
      case measure => simp [intOf]; omega
    · rw [List.take_of_length_le (by omega)] at hown
      go_wp2
      go_ret
      exact ⟨_, rfl, hown, hbel⟩
end Go.Proofs.YtppgijgmhjfdfaaDoor
