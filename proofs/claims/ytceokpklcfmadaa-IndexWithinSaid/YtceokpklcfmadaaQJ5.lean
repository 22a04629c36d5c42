import Derived.Maps.OwnSet
import Derived.Test.YtceokpklcfmadaaQJ3
import Derived.Test.YtceokpklcfmadaaQJ4
/-
  Package index: Drop, both.
-/
namespace Go.Proofs.Ytceokpklcfmadaa
open Go Go.RowKit Go.ChangeShapes Go.ChangeMaps Go.WideElems Go.Maps
open Wb

namespace Ix
/-- without a key -/
def del (kvs : Gm) (k : Int) : Gm := kvs.filter fun p => !(p.1 == k)
theorem del_rising {kvs : Gm} (h : rising kvs) (k : Int) : rising (del kvs k) := List.Pairwise.filter _ h
theorem del_en (kvs : Gm) (k : Int) : ChangeMaps.delKey (.int .i64 k) (kvs.map en) = (del kvs k).map en := by
  unfold ChangeMaps.delKey ChangeMaps.notKey del
  induction kvs with
  | nil => rfl
  | cons p r ih =>
    rw [List.map_cons, List.filter_cons, List.filter_cons, same_en, ih]
    cases (p.1 == k) <;> rfl
theorem del_add : ∀ (kvs : Gm) (k' v k : Int), rising kvs → del (add kvs k' v) k = if k' = k then del kvs k else add (del kvs k) k' v
  | [], k', v, k, _ => by
    rw [add]
    by_cases h : k' = k
    · rw [if_pos h]
      simp [del, h]
    · rw [if_neg h]
      simp [del, h, add]
  | (q, l) :: r, k', v, k, h => by
    unfold rising at h
    rw [List.pairwise_cons] at h
    have ih := del_add r k' v k h.2
    have hc : ∀ (p : Int × List Int) (s : Gm), del (p :: s) k = if p.1 = k then del s k else p :: del s k := fun p s => by
      unfold del
      rw [List.filter_cons]
      by_cases hp : p.1 = k <;> simp [hp]
    have hm : ∀ p ∈ del r k, q < p.1 := fun p hp => h.1 p (List.mem_filter.1 hp).1
    rw [add]
    by_cases h1 : k' < q
    · rw [if_pos h1, hc]
      by_cases hk : k' = k
      · rw [if_pos hk, if_pos hk]
      · rw [if_neg hk, if_neg hk, add_first]
        intro p hp
        rw [hc] at hp
        split at hp
        · have := hm p hp
          omega
        · rcases List.mem_cons.1 hp with rfl | hp
          · exact h1
          · have := hm p hp
            omega
    · rw [if_neg h1]
      by_cases h2 : q = k'
      · subst h2
        rw [if_pos rfl, hc, hc]
        by_cases hk : q = k
        · rw [if_pos hk, if_pos hk, if_pos hk]
        · rw [if_neg hk, if_neg hk, if_neg hk, add, if_neg h1, if_pos rfl]
      · rw [if_neg h2, hc, hc, ih]
        by_cases hk : k' = k
        · rw [if_pos hk, if_pos hk]
        · rw [if_neg hk, if_neg hk]
          by_cases hq : q = k
          · rw [if_pos hq, if_pos hq]
          · rw [if_neg hq, if_neg hq, add, if_neg h1, if_neg h2]
/-- the list without a key -/
def pdel (ps : List (Int × Int)) (k : Int) : List (Int × Int) := ps.filter fun p => !(p.1 == k)
theorem pdel_take (ps : List (Int × Int)) (k : Int) (j : Nat) (hj : j < ps.length) : pdel (ps.take (j + 1)) k = pdel (ps.take j) k ++ (if ps[j].1 = k then [] else [ps[j]]) := by
  unfold pdel
  rw [List.take_succ_eq_append_getElem hj, List.filter_append]
  congr 1
  by_cases h : ps[j].1 = k <;> simp [h]
theorem gml_pdel (ps : List (Int × Int)) (k : Int) : gml (pdel ps k) = del (gml ps) k := by
  have key : ∀ j, j ≤ ps.length → gml (pdel (ps.take j) k) = del (gml (ps.take j)) k := fun j => by
    induction j with
    | zero => intro _; rfl
    | succ j ih =>
      intro hj
      rw [pdel_take ps k j (by omega), gml_take ps j (by omega), del_add _ _ _ _ (gml_fine _).ris]
      by_cases h : ps[j].1 = k
      · rw [if_pos h, if_pos h, List.append_nil, ih (by omega)]
      · rw [if_neg h, if_neg h, gml_snoc, ih (by omega)]
  have := key ps.length (Nat.le_refl _)
  rwa [List.take_length] at this
theorem pdel_len (ps : List (Int × Int)) (k : Int) : (pdel ps k).length + (get (gml ps) k).length = ps.length := by
  rw [← vals_gml]
  unfold pdel vals
  rw [List.length_map]
  induction ps with
  | nil => rfl
  | cons p r ih =>
    rw [List.filter_cons, List.filter_cons]
    by_cases h : p.1 = k
    · simp [h] at ih ⊢
      omega
    · simp [h] at ih ⊢
      omega
end Ix
theorem MI.drop {w : World} {g b base n : Nat} {kvs : Ix.Gm} (h : MI w g b base n kvs) (k : Int) (hk : (Lit.int .i64 k).wf = true) (ty : TypeId) :
    ∃ w', (Builtin.delete_ #[97, 3] ty #[.map (some b), .int .i64 k]).run Try.prog w = .ok (.tuple #[]) w' ∧ MI w' g b base n (Ix.del kvs k) ∧ IFr w w' (fun q => q = b) ∧ ∀ q, Mrow w' b q → Mrow w b q := by
  obtain ⟨es, clock, hb, F, hs, hD, hbb, hlen, hap⟩ := h.map
  obtain ⟨es', hrun, F', hle, hdel, -, hwho⟩ := fit_drop_who (ty := ty) lawI Try.underlying97 hb F (keyI hk)
  have hg2 : w.grownBy (setBlock w b (.map es' clock)) (some b) := ⟨rfl, rfl, rfl, by simp [setBlock], fun i _ hi => heap_setBlock_other hb _ (fun e1 => hi (by rw [e1]))⟩
  have own_ne : ∀ {u : Value} {ys : List Int}, w.ownsInts base 3 .i64 u ys → u.ownBlock = none ∨ u.ownBlock ≠ some b := fun {u ys} ho => by
    cases hu : u.ownBlock with
    | none => exact Or.inl rfl
    | some g =>
      refine Or.inr (fun e1 => ?_)
      have := (ho.1.lt g hu).1
      cases e1
      omega
  have hs2 : ∀ x ∈ es'.toList, ∀ z, rowElem (H := Unit) w base 3 .i64 x.val = some z → rowElem (setBlock w b (.map es' clock)) base 3 .i64 x.val = some z := by
    intro x _ z hz
    obtain ⟨ys, ho, rfl⟩ := rowElem_inv hz
    exact rowElem_mk (ho.kept hg2 (own_ne ho))
  obtain ⟨F2, hmap2, -⟩ := F'.stay hs2
  have hmr : ∀ q, Mrow (setBlock w b (.map es' clock)) b q → Mrow w b q := fun q ⟨es9, c9, hb9, x, hx, hq⟩ => by
    rw [heap_setBlock_same hb _] at hb9
    cases hb9
    exact ⟨es, clock, hb, x, ((hwho x).1 hx).1, hq⟩
  refine ⟨_, hrun, ⟨(hg2.block g h.box.lt fun e => h.ne (Option.some.inj e)).trans h.box, ⟨es', clock, heap_setBlock_same hb _, F2, Nat.le_trans hle hs, ?_, hbb, ?_, ?_⟩, Ix.del_rising h.ris k, h.lo, Nat.le_trans h.hi hg2.size⟩, IFr.of hg2 fun q _ e => (Option.some.inj e).symm, hmr⟩
  · rw [hmap2, hdel]
    have e1 : kvs.map Ix.en = (es.toList.map (WideElems.rg Try.prog 3 (rowElem (H := Unit) w base 3 .i64))).foldr DataW.insert [] := by
      unfold Ix.dm at hD
      exact DataW.map.inj hD
    rw [← e1, Ix.del_en]
    unfold Ix.dm
    exact rfl
  · intro x hx ys ho
    have hx0 := ((hwho x).1 hx).1
    obtain ⟨y, hy⟩ := F.reads x hx0
    obtain ⟨z, hz, _⟩ := WideElems.rd_val hy
    obtain ⟨ys', ho', _⟩ := rowElem_inv hz
    rw [ho.unique (ho'.kept hg2 (own_ne ho'))]
    exact hlen x hx0 ys' ho'
  · intro x hx y hy hne
    exact hap x ((hwho x).1 hx).1 y ((hwho y).1 hy).1 hne
set_option maxRecDepth 100000 in
set_option maxHeartbeats 2000000 in
theorem ixdrop_any (g b base n : Nat) (kvs : Ix.Gm) (k : Int) (w : World) (h : MI w g b base n kvs) (hk : (Lit.int .i64 k).wf = true) (hn : n < 1000000000) :
    Calls Try.prog 15 #[.pointer (some ⟨g, 0, none⟩), .int .i64 k] w fun e w' => e = .returned (.int .i64 ((Ix.get kvs k).length : Int)) ∧ MI w' g b base n (Ix.del kvs k) ∧ IFr w w' (fun q => q = b) ∧ ∀ q, Mrow w' b q → Mrow w b q := by
  obtain ⟨v, hr, hoi, hvl, -, -⟩ := h.at k hk hn
  obtain ⟨c9, e9⟩ := ints_shape hoi
  have e8 : c9.2.1 = (Ix.get kvs k).length := by
    rcases hoi.1.2 with ⟨e7, h7⟩ | ⟨g7, c7, u7, e7, -⟩
    · rw [e9] at e7
      simp only [Value.slice.injEq] at e7
      omega
    · rw [e9] at e7
      simp only [Value.slice.injEq] at e7
      omega
  rw [e9, e8] at hr
  obtain ⟨w', hd, H9⟩ := h.drop k hk 0
  have HE : Hid (MI w' g b base n (Ix.del kvs k) ∧ IFr w w' (fun q => q = b) ∧ ∀ q, Mrow w' b q → Mrow w b q) := H9
  have x0 := h.box.cell 0 _ rfl
  generalize (Ix.get kvs k).length = m at *
  clear h H9 hoi e9 e8
  go_enter Try.func15, Try.ntmps15
  go_wp2_with fail
  go_returns
  exact ⟨rfl, HE.out⟩
/-- what the reference's Drop has gathered -/
structure DrS (w : World) (ps : List (Int × Int)) (k : Int) (j : Nat) (o : Value) (wr : World) : Prop where
  row : wr.ownsRow w.heap.size 54 2 o (Ix.pdel (ps.take j) k).length ((Ix.pdel (ps.take j) k).flatMap enP)
  bel : Below w.heap.size w wr
set_option maxRecDepth 100000 in
set_option maxHeartbeats 4000000 in
theorem rixdrop_any (v : Value) (ps : List (Int × Int)) (k : Int) (w : World) (h : Pr w v ps) (hl : ps.length ≤ 10000000) :
    Calls Try.prog 31 #[v, .int .i64 k] w fun e w' => ∃ ad, ∃ m c : Nat, e = .returned (.tuple #[.slice ad m c, .int .i64 ((Ix.get (Ix.gml ps) k).length : Int)]) ∧ w'.ownsRow w.heap.size 54 2 (.slice ad m c) (Ix.pdel ps k).length ((Ix.pdel ps k).flatMap enP) ∧ Below w.heap.size w w' := by
  have HPL : Hid ((Ix.pdel ps k).length + (Ix.get (Ix.gml ps) k).length = ps.length) := Ix.pdel_len ps k
  obtain ⟨a, c, rfl, hm1, hm2, hc⟩ := h
  unfold maxLen at hm2
  have HC : Hid (ps ≠ [] → ∃ b off, a = some ⟨b, off, none⟩ ∧ ∀ j (h : j < ps.length), w.cell? ⟨b, off + j * 2, none⟩ = some (.int .i64 ps[j].1) ∧ w.cell? ⟨b, off + j * 2 + 1, none⟩ = some (.int .i64 ps[j].2)) := hc
  clear hc
  go_enter Try.func31, Try.ntmps31
  go_wp2_with fail
  go_loopw [6, 7] (fun o i wr => ∃ j : Nat, j ≤ ps.length ∧ i = .int .i64 (j : Int) ∧ DrS w ps k j o wr) (fun _ i _ => ps.length - (intOf i).toNat)
  case atStart => exact ⟨0, Nat.zero_le _, rfl, ⟨World.ownsRow_nil _ _ _ _, Below.refl _ _⟩⟩
  case round =>
    obtain ⟨j, hj, rfl, hg⟩ := hrel
    have HG : Hid (DrS w ps k j u6 wr) := hg
    clear hg
    by_cases hlt : j < ps.length
    · obtain ⟨b, off, rfl, hcell⟩ := HC.out (List.ne_nil_of_length_pos (by omega))
      have q1 := (HG.out.bel.cell (p := ⟨b, off + j * 2, none⟩) (World.block_lt_of_cell? _ _ (hcell j hlt).1)).trans (hcell j hlt).1
      have q2 := (HG.out.bel.cell (p := ⟨b, off + j * 2 + 1, none⟩) (World.block_lt_of_cell? _ _ (hcell j hlt).2)).trans (hcell j hlt).2
      have HV : Hid (Ix.pdel (ps.take (j + 1)) k = Ix.pdel (ps.take j) k ++ (if ps[j].1 = k then [] else [ps[j]])) := Ix.pdel_take ps k j hlt
      have HL : Hid ((Ix.pdel (ps.take j) k).length ≤ 100000000) := by
        have h9 := List.length_filter_le (fun p : Int × Int => !(p.1 == k)) (ps.take j)
        rw [List.length_take] at h9
        show (List.filter _ _).length ≤ _
        omega
      clear hcell
      obtain ⟨p, hp⟩ : ∃ p, p = ps[j] := ⟨_, rfl⟩
      rw [← hp] at q1 q2 HV
      clear hp
      obtain ⟨x, y⟩ := p
      simp only at q1 q2 HV
      by_cases he : x = k
      · rw [if_pos he, List.append_nil] at HV
        have H3 : Hid (DrS w ps k (j + 1) u6 wr) := ⟨by rw [HV.out]; exact HG.out.row, HG.out.bel⟩
        have hd : (x != k) = false := by simp; exact he
        clear he HV
        go_wp2_with fail
        go_roundw
        case rel => exact ⟨j + 1, by omega, by go_num, H3.out⟩
        case measure => simp [intOf]; omega
      · rw [if_neg he] at HV
        have hd : (x != k) = true := by simp; exact he
        have HR : Hid (∀ W, W = wr.alloc (.cells #[.int .i64 x, .int .i64 y] 54) → W.ownsRow w.heap.size 54 2 u6 (Ix.pdel (ps.take j) k).length ((Ix.pdel (ps.take j) k).flatMap enP) ∧ W.rangeAt wr.heap.size 0 (enP (x, y)) ∧ w.heap.size ≤ W.heap.size ∧ Below w.heap.size w W) := fun W e => by
          subst e
          exact ⟨HG.out.row.alloc _, (lb_new wr (enP (x, y)) 54).range, Nat.le_trans HG.out.bel.size (up0 _ _).size, up HG.out.bel _⟩
        clear he
        go_wp2_with (at_builtin; refine wpList_appPA _ rfl (.tmp 21) (.tmp 26) rfl w.heap.size u6 (Ix.pdel (ps.take j) k) rfl (HR.out _ rfl).1 wr.heap.size 1 (x, y) rfl (HR.out _ rfl).2.1 HL.out (HR.out _ rfl).2.2.1 ?_)
        intro v3 w3 hr3 hg3 hat3
        have H3 : Hid (DrS w ps k (j + 1) v3 w3) := ⟨by rw [HV.out, List.length_append, List.length_singleton]; simpa using hr3, (HR.out _ rfl).2.2.2.grown hg3 (HR.out _ rfl).2.2.1 fun q e => (World.ownsRow.lt HG.out.row q e).1⟩
        clear hr3 hg3 hat3 HR HV
        go_wp2_with fail
        go_roundw
        case rel => exact ⟨j + 1, by omega, by go_num, H3.out⟩
        case measure => simp [intOf]; omega
    · have h9 := HG.out.row
      rw [List.take_of_length_le (by omega)] at h9
      obtain ⟨oa, oc, oe, -⟩ := Pr.of h9
      subst oe
      have H3 : Hid (wr.ownsRow w.heap.size 54 2 (.slice oa (Ix.pdel ps k).length oc) (Ix.pdel ps k).length ((Ix.pdel ps k).flatMap enP) ∧ Below w.heap.size w wr) := ⟨h9, HG.out.bel⟩
      have hws : IntKind.i64.wrap ((ps.length : Int) - ((Ix.pdel ps k).length : Int)) = ((Ix.get (Ix.gml ps) k).length : Int) := by
        have := HPL.out
        rw [IntWalk.i64_in _ (by omega)]
        omega
      clear h9 HG
      obtain ⟨m, hm⟩ : ∃ m, m = (Ix.pdel ps k).length := ⟨_, rfl⟩
      have HM : Hid (m = (Ix.pdel ps k).length) := hm
      rw [← hm] at hws
      have H4 : Hid (wr.ownsRow w.heap.size 54 2 (.slice oa m oc) (Ix.pdel ps k).length ((Ix.pdel ps k).flatMap enP) ∧ Below w.heap.size w wr) := by
        rw [hm]
        exact H3.out
      rw [← hm]
      clear hm H3 HPL
      go_wp2_with fail
      go_returns
      exact ⟨oa, m, oc, rfl, H4.out.1, H4.out.2⟩
end Go.Proofs.Ytceokpklcfmadaa
