/-
  Rows of byte strings of anyone's; the law package's 'laid'.
-/
import Derived.Test.YtdoclmkldfemhaaDoorPlays1
namespace Go.Proofs.YtdoclmkldfemhaaDoor
open Go Go.RowKit
open Wb

/-- A byte string that is empty, or lies in a block of bytes. -/
def Bk (w : World) (v : Value) (l : List Nat) : Prop := Bs w v l ∧ ∀ b off n cap, v = .slice (some ⟨b, off, none⟩) n cap → l ≠ [] → ∃ cs z, w.heap[b]? = some (.cells cs 5 z)
theorem Bk.grown {B : Nat} {w w' : World} {v x : Value} {vs : List Value} {l : List Nat} (hr : Row B w v vs) (hx : Bk w x l) (hg : w.grownBy w' v.ownBlock) : Bk w' x l := by
  obtain ⟨hb, ht⟩ := hx
  obtain ⟨ao, cap, rfl, hl, hm, hn, hc⟩ := hb.shape
  by_cases e : l = []
  · subst e
    exact ⟨⟨⟨ao, cap, rfl, hl, hm, hn, fun h => absurd rfl h⟩, ok_nil⟩, fun _ _ _ _ _ h => absurd rfl h⟩
  · obtain ⟨b, off, rfl, hcell⟩ := hc e
    have hlt : b < w.heap.size := World.block_lt_of_cell? _ _ (hcell 0 (List.length_pos_iff.2 e))
    have hty := ht b off _ _ rfl e
    have hne : some b ≠ v.ownBlock := by
      intro e2
      rcases hr.2 with ⟨rfl, _⟩ | ⟨g', cap', cur', rfl, hB, hg', _⟩
      · simp [Value.ownBlock] at e2
      · simp [Value.ownBlock] at e2
        subst e2
        obtain ⟨cs, z, h1⟩ := hty
        rw [h1] at hg'
        simp at hg'
    have hblk := hg.block b hlt hne
    refine ⟨⟨⟨_, cap, rfl, hl, hm, hn, fun _ => ⟨b, off, rfl, fun j hj => ?_⟩⟩, hb.good⟩, fun b' off' n' cap' e3 _ => ?_⟩
    · rw [World.cell?_of_block (w := w) (a := ⟨b, off + j, none⟩) hblk]
      exact hcell j hj
    · simp only [Value.slice.injEq, Option.some.injEq, Addr.mk.injEq] at e3
      obtain ⟨⟨rfl, _⟩, _⟩ := e3
      obtain ⟨cs, z, h1⟩ := hty
      exact ⟨cs, z, hblk.trans h1⟩
theorem Bk.kept {w w' : World} {v : Value} {l : List Nat} (h : Bk w v l) (hb : Below w.heap.size w w') : Bk w' v l := by
  refine ⟨h.1.kept hb, fun b off n cap e hne => ?_⟩
  obtain ⟨cs, z, h1⟩ := h.2 b off n cap e hne
  exact ⟨cs, z, (hb.block b (Array.getElem?_eq_some_iff.1 h1).1).trans h1⟩
theorem bk_nil {w : World} {v : Value} (h : Bs w v []) : Bk w v [] := ⟨h, fun _ _ _ _ _ hne => absurd rfl hne⟩
theorem own_typed {B : Nat} {w : World} {v : Value} {l : List Nat} (h : Own B w v l) (b off n cap : Nat) (e : v = .slice (some ⟨b, off, none⟩) n cap) : ∃ cs z, w.heap[b]? = some (.cells cs 5 z) := by
  rcases h.row.2 with ⟨rfl, h1⟩ | ⟨g, cap', cur, rfl, hb, hg, _⟩
  · simp at e
  · simp only [Value.slice.injEq, Option.some.injEq, Addr.mk.injEq] at e
    obtain ⟨⟨rfl, _⟩, _⟩ := e
    exact ⟨_, _, hg⟩
theorem own_bk {B : Nat} {w : World} {v : Value} {l : List Nat} (h : Own B w v l) : Bk w v l := ⟨h.bs, fun b off n cap e _ => own_typed h b off n cap e⟩
theorem own_subk {B : Nat} {w : World} {b off cap : Nat} {l : List Nat} (h : Own B w (.slice (some ⟨b, off, none⟩) l.length cap) l) (lo hi : Nat) (h1 : lo < hi) (h2 : hi ≤ l.length) :
    Bk w (.slice (some ⟨b, off + lo, none⟩) (hi - lo) (cap - lo)) ((l.take hi).drop lo) := by
  refine ⟨h.bs.sub lo hi h1 h2, fun b' off' n cap' e _ => ?_⟩
  simp only [Value.slice.injEq, Option.some.injEq, Addr.mk.injEq] at e
  obtain ⟨⟨rfl, _⟩, _⟩ := e
  exact own_typed h _ _ _ _ rfl

/-- a row of the call's own that holds byte strings of anyone's -/
def RowB (B : Nat) (w : World) (v : Value) (ls : List (List Nat)) : Prop := ∃ vs : List Value, Row B w v vs ∧ vs.length = ls.length ∧ ∀ j (h : j < vs.length) (h2 : j < ls.length), Bk w vs[j] ls[j]
theorem RowB.nil (B : Nat) (w : World) : RowB B w (.slice none 0 0) [] := ⟨[], Row.nil _ _, rfl, fun _ h => absurd h (Nat.not_lt_zero _)⟩
theorem RowB.kept {B : Nat} {w w' : World} {v : Value} {ls : List (List Nat)} (h : RowB B w v ls) (hb : Below w.heap.size w w') : RowB B w' v ls := by
  obtain ⟨vs, h1, h2, h3⟩ := h
  exact ⟨vs, h1.kept hb, h2, fun j a b => (h3 j a b).kept hb⟩
theorem RowB.push {B : Nat} {w w' : World} {v v' u : Value} {vs : List Value} {ls : List (List Nat)} {l : List Nat} (hr : Row B w v vs) (hl : vs.length = ls.length) (he : ∀ j (h : j < vs.length) (h2 : j < ls.length), Bk w vs[j] ls[j])
    (hu : Bk w u l) (hr' : Row B w' v' (vs ++ [u])) (hg : w.grownBy w' v.ownBlock) : RowB B w' v' (ls ++ [l]) := by
  refine ⟨vs ++ [u], hr', by simp [hl], fun j a b => ?_⟩
  by_cases hj : j < vs.length
  · rw [List.getElem_append_left hj, List.getElem_append_left (by omega)]
    exact Bk.grown hr (he j hj (by omega)) hg
  · have ej : j = vs.length := by simp at a; omega
    subst ej
    rw [List.getElem_append_right (Nat.le_refl _), List.getElem_append_right (by omega)]
    simp only [hl, Nat.sub_self, List.getElem_cons_zero]
    exact Bk.grown hr hu hg
theorem RowB.ps {B : Nat} {w : World} {v : Value} {ls : List (List Nat)} (h : RowB B w v ls) : Ps w v ls := by
  obtain ⟨vs, h1, h2, h3⟩ := h
  rcases h1.shape with ⟨rfl, rfl⟩ | ⟨g, cap, rfl, hl, hm, hc⟩
  · have : ls = [] := List.eq_nil_of_length_eq_zero (by simpa using h2.symm)
    subst this
    exact ⟨none, 0, rfl, by simp [maxLen], fun e => absurd rfl e⟩
  · refine ⟨some ⟨g, 0, none⟩, cap, by rw [h2], by omega, fun _ => ⟨g, 0, rfl, fun j hj => ⟨vs[j]'(by omega), ?_, (h3 j (by omega) hj).1⟩⟩⟩
    rw [Nat.zero_add]
    exact hc j (by omega)

/-- the array in which all parts lie -/
def lay (ls : List (List Nat)) : List Nat := (ls.map (· ++ pad 75)).flatten
theorem lay_append (a b : List (List Nat)) : lay (a ++ b) = lay a ++ lay b := by simp only [lay, List.map_append, List.flatten_append]
theorem lay_cons (x : List Nat) (b : List (List Nat)) : lay (x :: b) = (x ++ pad 75) ++ lay b := by simp only [lay, List.map_cons, List.flatten_cons]
theorem lay_snoc (ls : List (List Nat)) (k : Nat) (h : k < ls.length) : lay (ls.take (k + 1)) = lay (ls.take k) ++ (ls[k] ++ pad 75) := by
  rw [List.take_succ_eq_append_getElem h, lay_append, lay_cons, show lay [] = [] from rfl, List.append_nil]
theorem lay_len (ls : List (List Nat)) : (lay ls).length = ls.flatten.length + 75 * ls.length := by
  induction ls with
  | nil => rfl
  | cons a t ih =>
    have e : lay (a :: t) = (a ++ pad 75) ++ lay t := by simp [lay]
    rw [e, List.length_append, List.length_append, ih, pad_len, List.flatten_cons, List.length_append, List.length_cons]
    omega
theorem lay_seg (ls : List (List Nat)) (k : Nat) (h : k < ls.length) : ((lay ls).take ((lay (ls.take k)).length + ls[k].length)).drop (lay (ls.take k)).length = ls[k] := by
  have e : lay ls = lay (ls.take k) ++ (ls[k] ++ (pad 75 ++ lay (ls.drop (k + 1)))) := by
    have h1 : ls = ls.take k ++ ls[k] :: ls.drop (k + 1) := by
      rw [← List.drop_eq_getElem_cons h, List.take_append_drop]
    have h2 : lay ls = lay (ls.take k ++ ls[k] :: ls.drop (k + 1)) := congrArg lay h1
    rw [h2, lay_append, lay_cons, List.append_assoc]
  rw [e]
  generalize lay (ls.take k) = m
  generalize ls[k] = x
  rw [List.take_append, List.drop_append]
  simp
theorem lay_le (ls : List (List Nat)) (k : Nat) (h : k < ls.length) : (lay (ls.take k)).length + ls[k].length + 75 ≤ (lay ls).length := by
  have h1 := congrArg List.length (lay_snoc ls k h)
  have h2 := lay_len (ls.take (k + 1))
  have h3 := lay_len ls
  have h4 := fl_le ls (k + 1)
  rw [List.length_append, List.length_append, pad_len] at h1
  rw [List.length_take] at h2
  omega

set_option maxHeartbeats 2000000 in
theorem laid_any (v : Value) (ls : List (List Nat)) (w : World) (h : Ps w v ls) (hsum : ls.flatten.length + ls.length ≤ 4194304) :
    Calls Tryd.prog 49 #[v] w fun e w' => ∃ v1 v2, e = .returned (.tuple #[v1, v2]) ∧ Own w.heap.size w' v1 (lay ls) ∧ RowB w.heap.size w' v2 ls ∧ Below w.heap.size w w' := by
  have hin := info5
  have hin2 := info22
  have hLL := lay_len ls
  have hSL : ls.flatten.length ≤ 4194304 := by omega
  have hNL : ls.length ≤ 4194304 := by omega
  have hll : (lay ls).length ≤ 400000000 := by omega
  have hel : ∀ k (h : k < ls.length), ls[k].length ≤ 4194304 := by
    intro k hlt
    have h1 := fl_le ls (k + 1)
    rw [List.take_succ_eq_append_getElem hlt, List.flatten_append, List.length_append, List.flatten_cons, List.flatten_nil, List.append_nil] at h1
    omega
  have HEL : Hid (∀ k (h : k < ls.length), ls[k].length ≤ 4194304) := hel
  clear hel hLL hSL hsum
  obtain ⟨ao, cap, rfl, hmx, hc⟩ := h.shape
  unfold maxLen at hmx
  have HC : Hid (∀ k (h : k < ls.length), ∃ b off vk, ao = some ⟨b, off, none⟩ ∧ w.cell? ⟨b, off + k, none⟩ = some vk ∧ Bs w vk ls[k]) := fun k hk => by
    obtain ⟨b, off, e, hcell⟩ := hc (List.ne_nil_of_length_pos (by omega))
    obtain ⟨vk, h1, h2⟩ := hcell k hk
    exact ⟨b, off, vk, e, h1, h2⟩
  clear h hc
  go_enter Tryd.func49, Tryd.ntmps49
  go_wp2
  go_loopw [4, 5] (fun o i wr => ∃ k : Nat, k ≤ ls.length ∧ i = .int .i64 (k : Int) ∧ Own w.heap.size wr o (lay (ls.take k)) ∧ Below w.heap.size w wr) (fun _ i _ => ls.length - (intOf i).toNat)
  case atStart => exact ⟨0, Nat.zero_le _, rfl, by simpa [lay] using Own.nil _ _, Below.refl _ _⟩
  case round =>
    obtain ⟨k, hk, rfl, hown, hbel⟩ := hrel
    by_cases hlt : k < ls.length
    · obtain ⟨b, off, vk, rfl, hck, hbk⟩ := HC.out k hlt
      have q1 := (hbel.cell (p := ⟨b, off + k, none⟩) (World.block_lt_of_cell? _ _ hck)).trans hck
      have hbr := hbk.kept hbel
      have hkl := HEL.out k hlt
      have hle := lay_le ls k hlt
      obtain ⟨aok, capk, rfl, _⟩ := hbk.shape
      have HS : Hid (lay (ls.take (k + 1)) = lay (ls.take k) ++ (ls[k] ++ pad 75)) := lay_snoc ls k hlt
      have hsz := hbel.size
      have hyl : (ls[k] ++ pad 75).length ≤ 5000000 := by rw [List.length_append, pad_len]; omega
      clear hck hbk HC HEL
      generalize ls[k] = x at *
      generalize lay (ls.take k) = m at *
      go_wp2_with fail
      refine (roomy_any _ x _ hbr (by omega)).mono ?_
      generalize x ++ pad 75 = y at *
      rintro e w2 ⟨v2, rfl, ho2, b2⟩
      obtain ⟨ao2, cap2, rfl, _⟩ := ho2.bs.shape
      have ho1 := hown.kept b2
      have hb2 := andThen hbel b2
      have hsz2 := hb2.size
      clear hown hbel hbr q1
      go_wp2_with (at_builtin; refine wpList_append _ rfl (.tmp 16) (.tmp 21) 23 rfl w.heap.size hin Tryd.underlying23 _ m rfl ho1 _ y rfl ho2.bs (by omega) hsz2 ?_)
      intro v3 w3 ho3 hb3 _
      have R : Hid (Own w.heap.size w3 v3 (lay (ls.take (k + 1))) ∧ Below w.heap.size w w3) := ⟨by rw [HS.out]; exact ho3, hb2.trans hb3⟩
      clear ho3 hb3 ho1 ho2 hb2 b2 HS
      go_wp2
      go_roundw
      case rel => exact ⟨k + 1, by omega, by go_num, R.out.1, R.out.2⟩
      case measure => simp [intOf]; omega
    · rw [List.take_of_length_le (by omega)] at hown
      obtain ⟨ao4, cap4, rfl, hl4, hm4, hn4, hc4⟩ := hown.bs.shape
      clear hn4
      have HC4 : Hid (lay ls ≠ [] → ∃ b off, ao4 = some ⟨b, off, none⟩) := fun h => by
        obtain ⟨b, off, e, _⟩ := hc4 h
        exact ⟨b, off, e⟩
      clear hc4
      go_wp2
      go_loopw [6, 7, 8] (fun o at' i wr => ∃ k A : Nat, k ≤ ls.length ∧ i = .int .i64 (k : Int) ∧ at' = .int .i64 (A : Int) ∧ A = (lay (ls.take k)).length ∧ Own w.heap.size wr (.slice ao4 (lay ls).length cap4) (lay ls) ∧ RowB w.heap.size wr o (ls.take k) ∧ Below w.heap.size w wr) (fun _ _ i _ => ls.length - (intOf i).toNat)
      case atStart => exact ⟨0, 0, Nat.zero_le _, rfl, rfl, by simp [lay], hown, by simpa using RowB.nil _ _, hbel⟩
      case round =>
        clear hown hbel
        obtain ⟨k2, A, hk2, rfl, rfl, hA, hown, hrow, hbel⟩ := hrel
        have HA : Hid (A = (lay (ls.take k2)).length) := hA
        clear hA
        by_cases hlt2 : k2 < ls.length
        · obtain ⟨b, off, vk, rfl, hck, hbk⟩ := HC.out k2 hlt2
          have q1 := (hbel.cell (p := ⟨b, off + k2, none⟩) (World.block_lt_of_cell? _ _ hck)).trans hck
          have hkl := HEL.out k2 hlt2
          have hle := lay_le ls k2 hlt2
          rw [← HA.out] at hle
          have HN : Hid (A + ls[k2].length + 75 = (lay (ls.take (k2 + 1))).length) := by
            show _ = _
            rw [lay_snoc ls k2 hlt2, List.length_append, List.length_append, pad_len, HA.out, Nat.add_assoc]
          have HG : Hid (((lay ls).take (A + ls[k2].length)).drop A = ls[k2]) := by
            have h1 := lay_seg ls k2 hlt2
            rw [← HA.out] at h1
            exact h1
          obtain ⟨b4, off4, rfl⟩ := HC4.out (List.ne_nil_of_length_pos (by omega))
          have HT : Hid (ls.take (k2 + 1) = ls.take k2 ++ [ls[k2]]) := List.take_succ_eq_append_getElem hlt2
          obtain ⟨vs, hr, hvl, he⟩ := hrow
          have hdl : (ls.take k2).length = k2 := by rw [List.length_take]; omega
          have hvs : vs.length ≤ 5000000000 := by omega
          have HR : Hid (∀ o, Row w.heap.size (wr.alloc o) u6 vs) := fun o => hr.kept (up0 _ _)
          have HE : Hid (∀ o, ∀ j (h : j < vs.length) (h2 : j < (ls.take k2).length), Bk (wr.alloc o) vs[j] (ls.take k2)[j]) := fun o j a b => (he j a b).kept (up0 _ _)
          have HV : Hid (∀ o, Own w.heap.size (wr.alloc o) (.slice (some ⟨b4, off4, none⟩) (lay ls).length cap4) (lay ls)) := fun o => hown.alloc o
          have HK : Hid (∀ o, Bs (wr.alloc o) vk ls[k2]) := fun o => hbk.kept (up hbel _)
          have hsz := hbel.size
          obtain ⟨aok, capk, rfl, _⟩ := hbk.shape
          have HU : Hid (∀ o, 0 < ls[k2].length → Bk (wr.alloc o) (.slice (some ⟨b4, off4 + A, none⟩) ls[k2].length (cap4 - A)) ls[k2]) := fun o hp => by
            have h1 := own_subk (HV.out o) A (A + ls[k2].length) (by omega) (by omega)
            rw [HG.out, Nat.add_sub_cancel_left] at h1
            exact h1
          clear hck hbk HC HEL hr he hown HG HC4
          generalize ls[k2] = x at *
          by_cases hx : x = []
          · subst hx
            simp only [List.length_nil] at q1 HN HK
            go_wp2_with (at_builtin; refine wpList_push _ rfl (.tmp 36) (.tmp 41) 25 rfl w.heap.size hin2 Tryd.underlying25 _ vs rfl (HR.out _) wr.heap.size (.slice aok 0 capk) rfl (World.cell?_alloc_new wr _ _ 0) rfl hvs (by simp; omega) ?_)
            intro v3 w3 hr3 b3 hg3
            have R : Hid (Own w.heap.size w3 (.slice (some ⟨b4, off4, none⟩) (lay ls).length cap4) (lay ls) ∧ RowB w.heap.size w3 v3 (ls.take (k2 + 1)) ∧ Below w.heap.size w w3) := ⟨Own.grown (HR.out _) (HV.out _) hg3, by rw [HT.out]; exact RowB.push (HR.out _) hvl (HE.out _) (bk_nil (HK.out _)) hr3 hg3, (up hbel _).trans b3⟩
            clear hr3 b3 hg3 HR HE HV HK HU HT hbel q1
            go_wp2
            go_roundw
            case rel => exact ⟨k2 + 1, A + 75, by omega, by go_num, by go_num, HN.out, R.out.1, R.out.2.1, R.out.2.2⟩
            case measure => simp [intOf]; omega
          · have hpos : 0 < x.length := List.length_pos_iff.2 hx
            have d0 : ((x.length : Int) == 0) = false := beq_eq_false_iff_ne.2 (by omega)
            have hcp : ¬ cap4 = A := by omega
            have HW : Hid (∀ o, Bk (wr.alloc o) (.slice (some ⟨b4, off4 + A, none⟩) x.length (cap4 - A)) x) := fun o => HU.out o hpos
            clear hx HU HK
            go_wp2_with (at_builtin; refine wpList_push _ rfl (.tmp 43) (.tmp 50) 25 rfl w.heap.size hin2 Tryd.underlying25 _ vs rfl (HR.out _) wr.heap.size (.slice (some ⟨b4, off4 + A, none⟩) x.length (cap4 - A)) rfl (World.cell?_alloc_new wr _ _ 0) rfl hvs (by simp; omega) ?_)
            intro v3 w3 hr3 b3 hg3
            have R : Hid (Own w.heap.size w3 (.slice (some ⟨b4, off4, none⟩) (lay ls).length cap4) (lay ls) ∧ RowB w.heap.size w3 v3 (ls.take (k2 + 1)) ∧ Below w.heap.size w w3) := ⟨Own.grown (HR.out _) (HV.out _) hg3, by rw [HT.out]; exact RowB.push (HR.out _) hvl (HE.out _) (HW.out _) hr3 hg3, (up hbel _).trans b3⟩
            clear hr3 b3 hg3 HR HE HV HW HT hbel q1
            go_wp2
            go_roundw
            case rel => exact ⟨k2 + 1, A + x.length + 75, by omega, by go_num, by go_num, HN.out, R.out.1, R.out.2.1, R.out.2.2⟩
            case measure => simp [intOf]; omega
        · rw [List.take_of_length_le (by omega)] at hrow
          go_wp2
          go_ret2
          exact ⟨_, _, rfl, hown, hrow, hbel⟩
end Go.Proofs.YtdoclmkldfemhaaDoor
