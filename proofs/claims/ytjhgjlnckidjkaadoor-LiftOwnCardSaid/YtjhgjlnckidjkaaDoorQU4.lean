import Derived.Deep.RegionHeldLaw
import Derived.Deep.RegionLaw
import Derived.Test.YtjhgjlnckidjkaaDoorQU1
/-
  The reference's guess.
-/
namespace Go.Proofs.YtjhgjlnckidjkaaDoor
open Go Go.RowKit
open Wb

/-- the record under way: its data is a row of its own -/
def Mid (w : World) (g : Nat) (x : Nums) (nm : ByteArray) (u : Value) (l : List Nat) : Prop := Box w g x nm u ∧ Own (g + 1) w u l
theorem heap3 (w : World) (o1 o2 o3 : Obj) : (((w.alloc o1).alloc o2).alloc o3).heap[w.heap.size]? = some o1 ∧ (((w.alloc o1).alloc o2).alloc o3).heap[w.heap.size + 1]? = some o2 ∧ (((w.alloc o1).alloc o2).alloc o3).heap[w.heap.size + 2]? = some o3 ∧ Below w.heap.size w (((w.alloc o1).alloc o2).alloc o3) ∧ (((w.alloc o1).alloc o2).alloc o3).heap.size = w.heap.size + 3 := by
  refine ⟨?_, ?_, ?_, up (up (up0 _ _) _) _, by rw [heap_one, heap_one, heap_one]⟩
  · rw [heap_old _ _ _ (by rw [heap_one, heap_one]; omega)]
    exact (heap2 w o1 o2).1
  · rw [heap_old _ _ _ (by rw [heap_one, heap_one]; omega)]
    exact (heap2 w o1 o2).2.1
  · have := heap_new ((w.alloc o1).alloc o2) o3
    rw [heap_one, heap_one] at this
    exact this
theorem box_d' {w : World} {g : Nat} {x : Nums} {nm : ByteArray} {d : Value} (h : Box w g x nm d) (z : Value) : Box (w.setCell ⟨g, 11, none⟩ z) g x nm z := by
  unfold Box at *
  simp [World.setCell, Array.getElem?_modify, h]
theorem box_to2 {w : World} {g : Nat} {x : Nums} {nm : ByteArray} {d : Value} (h : Box w g x nm d) (t a l n : Int) (nm2 : ByteArray) : Box (((((w.setCell ⟨g, 4, none⟩ (.int .i64 t)).setCell ⟨g, 5, none⟩ (.int .i64 a)).setCell ⟨g, 6, none⟩ (.int .i64 l)).setCell ⟨g, 8, none⟩ (.int .i64 n)).setCell ⟨g, 10, none⟩ (.string nm2)) g { x with t := t, a := a, l := l, n := n } nm2 d := by
  unfold Box at *
  simp [World.setCell, Array.getElem?_modify, h]
theorem box_to3 {w : World} {g : Nat} {x : Nums} {nm : ByteArray} {d : Value} (h : Box w g x nm d) (t a l n : Int) (nm2 : ByteArray) (c i : Int) : Box (((((((w.setCell ⟨g, 4, none⟩ (.int .i64 t)).setCell ⟨g, 5, none⟩ (.int .i64 a)).setCell ⟨g, 6, none⟩ (.int .i64 l)).setCell ⟨g, 8, none⟩ (.int .i64 n)).setCell ⟨g, 10, none⟩ (.string nm2)).setCell ⟨g, 7, none⟩ (.int .i64 c)).setCell ⟨g, 9, none⟩ (.int .i64 i)) g { x with t := t, a := a, l := l, c := c, n := n, i := i } nm2 d := by
  unfold Box at *
  simp [World.setCell, Array.getElem?_modify, h]
set_option maxRecDepth 100000 in
set_option maxHeartbeats 2000000 in
theorem guess_X (r : Rec) (d : Value) (w : World) (h : Bs w d r.l) (hs : r.small) (hv : 1 < r.x.v) (hk : r.x.k = 1) :
    Calls Tryd.prog 42 #[rv r.x r.nm d, .int .i64 1] w fun e w' => NewR w w' (guessP 1 r) e := by
  have HE : Hid (guessP 1 r = ⟨⟨1, r.x.k, r.x.s, r.x.n, 0, 0, 0, 0, 0, 0⟩, ⟨#[]⟩, nbs r.nm⟩) := by show _ = _; unfold guessP; rw [if_pos ⟨hv, rfl, hk⟩]
  rw [HE.out]
  have dk : (r.x.k == 1) = true := by simp [hk]
  have hnm := hs.1
  have hc : ∀ w' : World, (convert 9 36 (.string r.nm)).run Tryd.prog w' = .ok (.slice (some ⟨w'.heap.size, 0, none⟩) r.nm.size (grownCap w' r.nm.size 0 5)) (w'.drew.alloc (.cells (bytesRow r.nm (grownCap w' r.nm.size 0 5)) 5 ((bytesRow r.nm (grownCap w' r.nm.size 0 5)).size, (bytesRow r.nm (grownCap w' r.nm.size 0 5)).size + 1))) := fun w' => run_bytes_of_string w' 9 36 5 r.nm Tryd.underlying9 Tryd.underlying36 Tryd.underlying5
  have HG : Hid (∀ w', r.nm.size ≤ grownCap w' r.nm.size 0 5 ∧ grownCap w' r.nm.size 0 5 ≤ maxLen) := fun w' => ⟨grownCap_ge _ _ _ _, grownCap_le_maxLen _ _ _ _ (by unfold maxLen; omega)⟩
  obtain ⟨ao, cap, rfl, _⟩ := h.shape
  clear h HE hs hk
  unfold rv
  go_enter Tryd.func42, Tryd.ntmps42
  go_wp2
  generalize hGe : grownCap _ r.nm.size 0 5 = G
  have hG : Hid (r.nm.size ≤ G ∧ G ≤ maxLen) := by
    show _ ∧ _
    rw [← hGe]
    exact HG.out _
  clear hGe hc HG
  go_returns
  refine ⟨some ⟨w.heap.size + 3, 0, none⟩, G, ?_, ?_, ?_, ?_⟩
  · rw [nbs_len]; rfl
  · rw [nbs_len]
    exact Bs.kept (bs_row _ r.nm G hG.out.1 hG.out.2 _ (by rw [heap_one, heap_one, heap_one]) _) (Below.drew (Below.refl _ _))
  · intro g hg _ b off n cap e
    simp only [Value.slice.injEq, Option.some.injEq, Addr.mk.injEq] at e
    omega
  · go_grown
set_option maxRecDepth 100000 in
set_option maxHeartbeats 4000000 in
theorem guess_A (r : Rec) (d : Value) (w : World) (h : Bs w d r.l) (hs : r.small) (hv : r.x.v = 1) :
    Calls Tryd.prog 42 #[rv r.x r.nm d, .int .i64 1] w fun e w' => NewR w w' (guessP 1 r) e := by
  have HE : Hid (guessP 1 r = ⟨⟨1, r.x.k, r.x.s, r.x.p, 0, 0, 0, 0, 0, 0⟩, ⟨#[]⟩, r.l⟩) := by show _ = _; unfold guessP; rw [if_neg (by omega), if_pos (by decide)]
  rw [HE.out]
  have dv : decide (1 < r.x.v) = false := by simp [hv]
  have hv1 : ¬ 1 < r.x.v := by omega
  clear hv
  have hlen := hs.2
  have hin := info5
  have HIR : Hid ((Tryd.prog.info? 38).map (·.size) = some 12) := infoRec
  have hg256 := h.good
  have HX : Hid (∀ o1 o2 o3, (((w.alloc o1).alloc o2).alloc o3).heap[w.heap.size]? = some o1 ∧ (((w.alloc o1).alloc o2).alloc o3).heap[w.heap.size + 1]? = some o2 ∧ (((w.alloc o1).alloc o2).alloc o3).heap[w.heap.size + 2]? = some o3 ∧ Below w.heap.size w (((w.alloc o1).alloc o2).alloc o3) ∧ (((w.alloc o1).alloc o2).alloc o3).heap.size = w.heap.size + 3) := heap3 w
  obtain ⟨ao, cap, rfl, hl0, hmx, hn0, hc0⟩ := h.shape
  have HCE : Hid (r.l ≠ [] → ∃ b off, ao = some ⟨b, off, none⟩ ∧ ∀ (j : Nat) (hj : j < r.l.length), w.cell? ⟨b, off + j, none⟩ = some (.int .u8 (r.l[j] : Int))) := hc0
  unfold maxLen at hmx
  have HOK : Hid (ok r.l) := hg256
  clear h HE hs hc0 hg256
  unfold rv
  go_enter Tryd.func42, Tryd.ntmps42
  go_upto_region 6 with fail
  have HK : Hid (Box (((w.alloc (.cells #[.int .i64 r.x.v, .int .i64 r.x.k, .int .i64 r.x.s, .int .i64 r.x.p, .int .i64 r.x.t, .int .i64 r.x.a, .int .i64 r.x.l, .int .i64 r.x.c, .int .i64 r.x.n, .int .i64 r.x.i, .string r.nm, .slice ao r.l.length cap] 38)).alloc (.cells #[.int .i64 0, .int .i64 0, .int .i64 0, .int .i64 0, .int .i64 0, .int .i64 0, .int .i64 0, .int .i64 0, .int .i64 0, .int .i64 0, .string ⟨#[]⟩, .slice none 0 0] 38)).alloc (.cells #[.int .i64 1, .int .i64 r.x.k, .int .i64 r.x.s, .int .i64 r.x.p, .int .i64 0, .int .i64 0, .int .i64 0, .int .i64 0, .int .i64 0, .int .i64 0, .string ⟨#[]⟩, .slice none 0 0] 38)) w.heap.size r.x r.nm (.slice ao r.l.length cap) ∧ Box (((w.alloc (.cells #[.int .i64 r.x.v, .int .i64 r.x.k, .int .i64 r.x.s, .int .i64 r.x.p, .int .i64 r.x.t, .int .i64 r.x.a, .int .i64 r.x.l, .int .i64 r.x.c, .int .i64 r.x.n, .int .i64 r.x.i, .string r.nm, .slice ao r.l.length cap] 38)).alloc (.cells #[.int .i64 0, .int .i64 0, .int .i64 0, .int .i64 0, .int .i64 0, .int .i64 0, .int .i64 0, .int .i64 0, .int .i64 0, .int .i64 0, .string ⟨#[]⟩, .slice none 0 0] 38)).alloc (.cells #[.int .i64 1, .int .i64 r.x.k, .int .i64 r.x.s, .int .i64 r.x.p, .int .i64 0, .int .i64 0, .int .i64 0, .int .i64 0, .int .i64 0, .int .i64 0, .string ⟨#[]⟩, .slice none 0 0] 38)) (w.heap.size + 1) zeroNums ⟨#[]⟩ (.slice none 0 0) ∧ Mid (((w.alloc (.cells #[.int .i64 r.x.v, .int .i64 r.x.k, .int .i64 r.x.s, .int .i64 r.x.p, .int .i64 r.x.t, .int .i64 r.x.a, .int .i64 r.x.l, .int .i64 r.x.c, .int .i64 r.x.n, .int .i64 r.x.i, .string r.nm, .slice ao r.l.length cap] 38)).alloc (.cells #[.int .i64 0, .int .i64 0, .int .i64 0, .int .i64 0, .int .i64 0, .int .i64 0, .int .i64 0, .int .i64 0, .int .i64 0, .int .i64 0, .string ⟨#[]⟩, .slice none 0 0] 38)).alloc (.cells #[.int .i64 1, .int .i64 r.x.k, .int .i64 r.x.s, .int .i64 r.x.p, .int .i64 0, .int .i64 0, .int .i64 0, .int .i64 0, .int .i64 0, .int .i64 0, .string ⟨#[]⟩, .slice none 0 0] 38)) (w.heap.size + 2) ⟨1, r.x.k, r.x.s, r.x.p, 0, 0, 0, 0, 0, 0⟩ ⟨#[]⟩ (.slice none 0 0) [] ∧ Below w.heap.size w (((w.alloc (.cells #[.int .i64 r.x.v, .int .i64 r.x.k, .int .i64 r.x.s, .int .i64 r.x.p, .int .i64 r.x.t, .int .i64 r.x.a, .int .i64 r.x.l, .int .i64 r.x.c, .int .i64 r.x.n, .int .i64 r.x.i, .string r.nm, .slice ao r.l.length cap] 38)).alloc (.cells #[.int .i64 0, .int .i64 0, .int .i64 0, .int .i64 0, .int .i64 0, .int .i64 0, .int .i64 0, .int .i64 0, .int .i64 0, .int .i64 0, .string ⟨#[]⟩, .slice none 0 0] 38)).alloc (.cells #[.int .i64 1, .int .i64 r.x.k, .int .i64 r.x.s, .int .i64 r.x.p, .int .i64 0, .int .i64 0, .int .i64 0, .int .i64 0, .int .i64 0, .int .i64 0, .string ⟨#[]⟩, .slice none 0 0] 38))) := ⟨(HX.out _ _ _).1, (HX.out _ _ _).2.1, ⟨(HX.out _ _ _).2.2.1, Own.nil _ _⟩, (HX.out _ _ _).2.2.2.1⟩
  have HK' := HK.out
  clear HK HX
  generalize ((w.alloc (.cells #[.int .i64 r.x.v, .int .i64 r.x.k, .int .i64 r.x.s, .int .i64 r.x.p, .int .i64 r.x.t, .int .i64 r.x.a, .int .i64 r.x.l, .int .i64 r.x.c, .int .i64 r.x.n, .int .i64 r.x.i, .string r.nm, .slice ao r.l.length cap] 38)).alloc (.cells #[.int .i64 0, .int .i64 0, .int .i64 0, .int .i64 0, .int .i64 0, .int .i64 0, .int .i64 0, .int .i64 0, .int .i64 0, .int .i64 0, .string ⟨#[]⟩, .slice none 0 0] 38)).alloc (.cells #[.int .i64 1, .int .i64 r.x.k, .int .i64 r.x.s, .int .i64 r.x.p, .int .i64 0, .int .i64 0, .int .i64 0, .int .i64 0, .int .i64 0, .int .i64 0, .string ⟨#[]⟩, .slice none 0 0] 38) = W at HK' ⊢
  go_wp2
  go_loopw [6] (fun i wr => ∃ (k : Nat) (u : Value), k ≤ r.l.length ∧ i = .int .i64 (k : Int) ∧ Box wr w.heap.size r.x r.nm (.slice ao r.l.length cap) ∧ Box wr (w.heap.size + 1) zeroNums ⟨#[]⟩ (.slice none 0 0) ∧ Mid wr (w.heap.size + 2) ⟨1, r.x.k, r.x.s, r.x.p, 0, 0, 0, 0, 0, 0⟩ ⟨#[]⟩ u (r.l.take k) ∧ Below w.heap.size w wr) (fun i _ => r.l.length - (intOf i).toNat)
  case atStart => exact ⟨0, _, Nat.zero_le _, rfl, HK'.1, HK'.2.1, HK'.2.2.1, HK'.2.2.2⟩
  case round =>
    clear HK'
    obtain ⟨k, u, hk, rfl, hbr, hbz, ⟨hbq, how⟩, hbel⟩ := hrel
    by_cases hlt : k < r.l.length
    · obtain ⟨b, off, rfl, hcell⟩ := HCE.out (List.ne_nil_of_length_pos (by omega))
      have hck := (hbel.cell (p := ⟨b, off + k, none⟩) (World.block_lt_of_cell? _ _ (hcell k hlt))).trans (hcell k hlt)
      have h256 := ok_get HOK.out k hlt
      have HS : Hid (r.l.take (k + 1) = r.l.take k ++ [r.l[k]]) := by show _ = _; rw [List.take_succ_eq_append_getElem hlt]
      have hLm : (r.l.take k).length ≤ 20000 := by rw [List.length_take]; omega
      have cr := hbr.cells.2.2.2.2.2.2.2.2.2.2.2
      have cq := hbq.cells.2.2.2.2.2.2.2.2.2.2.2
      have fq := hbq.free' 11
      have hub : ∀ g, u.ownBlock = some g → w.heap.size + 3 ≤ g := fun g hg => (World.ownsRow.lt how.row g hg).1
      have HU : Hid (∀ w', Below wr.heap.size wr w' → Own (w.heap.size + 3) w' u (r.l.take k) ∧ Below w.heap.size w w' ∧ w.heap.size + 3 ≤ w'.heap.size) := fun w' hb => ⟨how.kept hb, andThen hbel hb, by have := hbq.lt; have := hb.size; omega⟩
      have hbl : b < w.heap.size := World.block_lt_of_cell? _ _ (hcell k hlt)
      have HBB : Hid (∀ w', Below wr.heap.size wr w' → Box w' w.heap.size r.x r.nm (.slice (some ⟨b, off, none⟩) r.l.length cap) ∧ Box w' (w.heap.size + 1) zeroNums ⟨#[]⟩ (.slice none 0 0) ∧ Box w' (w.heap.size + 2) ⟨1, r.x.k, r.x.s, r.x.p, 0, 0, 0, 0, 0, 0⟩ ⟨#[]⟩ u) := fun w' hb => ⟨hbr.kept hb, hbz.kept hb, hbq.kept hb⟩
      clear hcell how hbr hbz hbq hbel HCE
      generalize r.l[k] = c at *
      generalize r.l.take k = m at *
      go_wp2
      have HQ : Hid (∀ W w', Below wr.heap.size wr W → W.grownBy w' u.ownBlock → (Box w' w.heap.size r.x r.nm (.slice (some ⟨b, off, none⟩) r.l.length cap) ∧ Box w' (w.heap.size + 1) zeroNums ⟨#[]⟩ (.slice none 0 0) ∧ Box w' (w.heap.size + 2) ⟨1, r.x.k, r.x.s, r.x.p, 0, 0, 0, 0, 0, 0⟩ ⟨#[]⟩ u) ∧ Below w.heap.size w w') := fun W w' hb hg => by
        obtain ⟨h1, h2, h3⟩ := HBB.out _ hb
        have hn : ∀ j, j < w.heap.size + 3 → some j ≠ u.ownBlock := fun j hj e => by have := hub j e.symm; omega
        exact ⟨⟨(hg.block _ h1.lt (hn _ (by omega))).trans h1, (hg.block _ h2.lt (hn _ (by omega))).trans h2, (hg.block _ h3.lt (hn _ (by omega))).trans h3⟩, (HU.out _ hb).2.1.grown hg (HU.out _ hb).2.1.size (fun j hj => by have := hub j hj; omega)⟩
      have cqa : (wr.alloc (.cells #[.int .u8 (c : Int)] 5)).cell? ⟨w.heap.size + 1 + 1, 11, none⟩ = some u := (HBB.out _ (up0 _ _)).2.2.cells.2.2.2.2.2.2.2.2.2.2.2
      have cqb : (wr.alloc (.cells #[.int .u8 (c : Int)] 5)).drew.cell? ⟨w.heap.size + 1 + 1, 11, none⟩ = some u := (HBB.out _ (Below.drew (up0 _ _))).2.2.cells.2.2.2.2.2.2.2.2.2.2.2
      clear HBB hub
      go_region_law (refine step_append rfl (.tmp 43) (.tmp 49) 36 rfl (w.heap.size + 3) hin Tryd.underlying36 u m (by simp [Act.eval]) (HU.out _ (by repeat (first | exact Below.refl _ _ | refine Below.drew ?_ | refine up ?_ _))).1 _ [c] (by simp [Act.eval]; rfl) (by first | exact Bs.one _ c h256 _ rfl | exact (Bs.one _ c h256 _ rfl).drew) (by simp; omega) (HU.out _ (by repeat (first | exact Below.refl _ _ | refine Below.drew ?_ | refine up ?_ _))).2.2 ?_; intro v' w' ho' hb' hgr'; obtain ⟨a3, p3, e3, _⟩ := ho'.bs.shape; simp only [List.length_append, List.length_cons, List.length_nil, Nat.zero_add] at e3; subst e3; have hQ := HQ.out _ _ (by repeat (first | exact Below.refl _ _ | refine Below.drew ?_ | refine up ?_ _)) hgr'; have cq' := hQ.1.2.2.cells.2.2.2.2.2.2.2.2.2.2.2; have fq' := hQ.1.2.2.free' 11)
      all_goals
        have R : Hid (Box (w'.setCell ⟨w.heap.size + 2, 11, none⟩ (.slice a3 (m.length + 1) p3)) w.heap.size r.x r.nm (.slice (some ⟨b, off, none⟩) r.l.length cap) ∧ Box (w'.setCell ⟨w.heap.size + 2, 11, none⟩ (.slice a3 (m.length + 1) p3)) (w.heap.size + 1) zeroNums ⟨#[]⟩ (.slice none 0 0) ∧ Mid (w'.setCell ⟨w.heap.size + 2, 11, none⟩ (.slice a3 (m.length + 1) p3)) (w.heap.size + 2) ⟨1, r.x.k, r.x.s, r.x.p, 0, 0, 0, 0, 0, 0⟩ ⟨#[]⟩ (.slice a3 (m.length + 1) p3) (r.l.take (k + 1)) ∧ Below w.heap.size w (w'.setCell ⟨w.heap.size + 2, 11, none⟩ (.slice a3 (m.length + 1) p3))) := ⟨hQ.1.1.set _ _ (show w.heap.size ≠ w.heap.size + 2 by omega), hQ.1.2.1.set _ _ (show w.heap.size + 1 ≠ w.heap.size + 2 by omega), ⟨box_d' hQ.1.2.2 _, by rw [HS.out]; exact Own.set ho' _ _ (show w.heap.size + 2 < w.heap.size + 3 by omega)⟩, Below.setCell hQ.2 (show w.heap.size ≤ w.heap.size + 2 by omega) _⟩
        clear ho' hb' hgr' hQ cq' fq' HQ HU HS cr cq fq hck cqa cqb
        go_wp2
        go_roundw
        case rel => exact ⟨k + 1, _, by omega, by go_num, R.out.1, R.out.2.1, R.out.2.2.1, R.out.2.2.2⟩
        case measure => simp [intOf]; omega
    · obtain rfl : k = r.l.length := by omega
      rw [List.take_length] at how
      obtain ⟨af, cf, rfl, _⟩ := how.bs.shape
      have HOW : Hid (Own (w.heap.size + 2 + 1) wr (.slice af r.l.length cf) r.l ∧ Below w.heap.size w wr) := ⟨how, hbel⟩
      have HWX : Hid (∃ W, wr = W ∧ Box W (w.heap.size + 1) zeroNums ⟨#[]⟩ (.slice none 0 0) ∧ Box W (w.heap.size + 2) ⟨1, r.x.k, r.x.s, r.x.p, 0, 0, 0, 0, 0, 0⟩ ⟨#[]⟩ (.slice af r.l.length cf) ∧ Own (w.heap.size + 3) W (.slice af r.l.length cf) r.l ∧ Below w.heap.size w W) := ⟨_, rfl, hbz, hbq, HOW.out.1, HOW.out.2⟩
      obtain ⟨c0, c1, c2, c3, c4, c5, c6, c7, c8, c9, c10, c11⟩ := hbr.cells
      obtain ⟨q0, q1, q2, q3, q4, q5, q6, q7, q8, q9, q10, q11⟩ := hbq.cells
      have g0 := hbq.free' 0
      have g1 := hbq.free' 1
      have g2 := hbq.free' 2
      have g3 := hbq.free' 3
      have g4 := hbq.free' 4
      have g5 := hbq.free' 5
      have g6 := hbq.free' 6
      have g7 := hbq.free' 7
      have g8 := hbq.free' 8
      have g9 := hbq.free' 9
      have g10 := hbq.free' 10
      have g11 := hbq.free' 11
      clear hbr hbz hbq how hbel HCE HOW
      go_upto_region 19 with fail
      obtain ⟨W, hW, hz, hq, ho, hB⟩ := HWX.out
      rw [hW]
      clear HWX hW c0 q0 g0 c1 q1 g1 c2 q2 g2 c3 q3 g3 c4 q4 g4 c5 q5 g5 c6 q6 g6 c7 q7 g7 c8 q8 g8 c9 q9 g9 c10 q10 g10 c11 q11 g11
      obtain ⟨z0, z1, z2, z3, z4, z5, z6, z7, z8, z9, z10, z11⟩ := hz.cells
      have f0 := hz.free' 0
      have f1 := hz.free' 1
      have f2 := hz.free' 2
      have f3 := hz.free' 3
      have f4 := hz.free' 4
      have f5 := hz.free' 5
      have f6 := hz.free' 6
      have f7 := hz.free' 7
      have f8 := hz.free' 8
      have f9 := hz.free' 9
      have f10 := hz.free' 10
      have f11 := hz.free' 11
      obtain ⟨q0, q1, q2, q3, q4, q5, q6, q7, q8, q9, q10, q11⟩ := hq.cells
      have g0 := hq.free' 0
      have g1 := hq.free' 1
      have g2 := hq.free' 2
      have g3 := hq.free' 3
      have g4 := hq.free' 4
      have g5 := hq.free' 5
      have g6 := hq.free' 6
      have g7 := hq.free' 7
      have g8 := hq.free' 8
      have g9 := hq.free' 9
      have g10 := hq.free' 10
      have g11 := hq.free' 11
      have HTH : Hid (W.there (w.heap.size + 1) 0 12) := hz.there
      have HF : Hid (Below w.heap.size w (W.setCells (w.heap.size + 1) 0 [.int .i64 1, .int .i64 r.x.k, .int .i64 r.x.s, .int .i64 r.x.p, .int .i64 0, .int .i64 0, .int .i64 0, .int .i64 0, .int .i64 0, .int .i64 0, .string ⟨#[]⟩, .slice af r.l.length cf]) ∧ Bs (W.setCells (w.heap.size + 1) 0 [.int .i64 1, .int .i64 r.x.k, .int .i64 r.x.s, .int .i64 r.x.p, .int .i64 0, .int .i64 0, .int .i64 0, .int .i64 0, .int .i64 0, .int .i64 0, .string ⟨#[]⟩, .slice af r.l.length cf]) (.slice af r.l.length cf) r.l ∧ ∀ g, g < w.heap.size → Off g (.slice af r.l.length cf) r.l) := ⟨below_cells (by omega) _ 0 _ hB, (Own.cells ho _ _ _ (by omega)).bs, fun g hg => off_own ho g (by omega)⟩
      clear hq hz hB ho
      go_wp2
      have HRG := World.rangeAt_setCells_same W (w.heap.size + 1) 0 [.int .i64 1, .int .i64 r.x.k, .int .i64 r.x.s, .int .i64 r.x.p, .int .i64 0, .int .i64 0, .int .i64 0, .int .i64 0, .int .i64 0, .int .i64 0, .string ⟨#[]⟩, .slice af r.l.length cf] HTH.out
      refine bodyPost_ret (results_cell_mid (p := 4) (ty := 38) rfl _ _ (w.heap.size + 1) [.int .i64 1, .int .i64 r.x.k, .int .i64 r.x.s, .int .i64 r.x.p, .int .i64 0, .int .i64 0, .int .i64 0, .int .i64 0, .int .i64 0, .int .i64 0, .string ⟨#[]⟩, .slice af r.l.length cf] _ rfl HRG Tryd.underlying38 rfl HIR.out) rfl ?_
      exact ⟨_, _, rfl, HF.out.2.1, HF.out.2.2, HF.out.1⟩
set_option maxRecDepth 100000 in
set_option maxHeartbeats 4000000 in
theorem guess_B (r : Rec) (d : Value) (w : World) (h : Bs w d r.l) (hs : r.small) (hv : 1 < r.x.v) (hk1 : r.x.k ≠ 1) :
    Calls Tryd.prog 42 #[rv r.x r.nm d, .int .i64 1] w fun e w' => NewR w w' (guessP 1 r) e := by
  have HE : Hid (guessP 1 r = ⟨⟨1, r.x.k, r.x.s, r.x.p, 0, 0, 0, 0, 0, 0⟩, ⟨#[]⟩, r.l⟩) := by show _ = _; unfold guessP; rw [if_neg (fun x => hk1 x.2.2), if_pos (by decide)]
  rw [HE.out]
  have dk : (r.x.k == 1) = false := by simp [hk1]
  clear hk1
  have hlen := hs.2
  have hin := info5
  have HIR : Hid ((Tryd.prog.info? 38).map (·.size) = some 12) := infoRec
  have hg256 := h.good
  have HX : Hid (∀ o1 o2 o3, (((w.alloc o1).alloc o2).alloc o3).heap[w.heap.size]? = some o1 ∧ (((w.alloc o1).alloc o2).alloc o3).heap[w.heap.size + 1]? = some o2 ∧ (((w.alloc o1).alloc o2).alloc o3).heap[w.heap.size + 2]? = some o3 ∧ Below w.heap.size w (((w.alloc o1).alloc o2).alloc o3) ∧ (((w.alloc o1).alloc o2).alloc o3).heap.size = w.heap.size + 3) := heap3 w
  obtain ⟨ao, cap, rfl, hl0, hmx, hn0, hc0⟩ := h.shape
  have HCE : Hid (r.l ≠ [] → ∃ b off, ao = some ⟨b, off, none⟩ ∧ ∀ (j : Nat) (hj : j < r.l.length), w.cell? ⟨b, off + j, none⟩ = some (.int .u8 (r.l[j] : Int))) := hc0
  unfold maxLen at hmx
  have HOK : Hid (ok r.l) := hg256
  clear h HE hs hc0 hg256
  unfold rv
  go_enter Tryd.func42, Tryd.ntmps42
  go_upto_region 6 with fail
  have HK : Hid (Box (((w.alloc (.cells #[.int .i64 r.x.v, .int .i64 r.x.k, .int .i64 r.x.s, .int .i64 r.x.p, .int .i64 r.x.t, .int .i64 r.x.a, .int .i64 r.x.l, .int .i64 r.x.c, .int .i64 r.x.n, .int .i64 r.x.i, .string r.nm, .slice ao r.l.length cap] 38)).alloc (.cells #[.int .i64 0, .int .i64 0, .int .i64 0, .int .i64 0, .int .i64 0, .int .i64 0, .int .i64 0, .int .i64 0, .int .i64 0, .int .i64 0, .string ⟨#[]⟩, .slice none 0 0] 38)).alloc (.cells #[.int .i64 1, .int .i64 r.x.k, .int .i64 r.x.s, .int .i64 r.x.p, .int .i64 0, .int .i64 0, .int .i64 0, .int .i64 0, .int .i64 0, .int .i64 0, .string ⟨#[]⟩, .slice none 0 0] 38)) w.heap.size r.x r.nm (.slice ao r.l.length cap) ∧ Box (((w.alloc (.cells #[.int .i64 r.x.v, .int .i64 r.x.k, .int .i64 r.x.s, .int .i64 r.x.p, .int .i64 r.x.t, .int .i64 r.x.a, .int .i64 r.x.l, .int .i64 r.x.c, .int .i64 r.x.n, .int .i64 r.x.i, .string r.nm, .slice ao r.l.length cap] 38)).alloc (.cells #[.int .i64 0, .int .i64 0, .int .i64 0, .int .i64 0, .int .i64 0, .int .i64 0, .int .i64 0, .int .i64 0, .int .i64 0, .int .i64 0, .string ⟨#[]⟩, .slice none 0 0] 38)).alloc (.cells #[.int .i64 1, .int .i64 r.x.k, .int .i64 r.x.s, .int .i64 r.x.p, .int .i64 0, .int .i64 0, .int .i64 0, .int .i64 0, .int .i64 0, .int .i64 0, .string ⟨#[]⟩, .slice none 0 0] 38)) (w.heap.size + 1) zeroNums ⟨#[]⟩ (.slice none 0 0) ∧ Mid (((w.alloc (.cells #[.int .i64 r.x.v, .int .i64 r.x.k, .int .i64 r.x.s, .int .i64 r.x.p, .int .i64 r.x.t, .int .i64 r.x.a, .int .i64 r.x.l, .int .i64 r.x.c, .int .i64 r.x.n, .int .i64 r.x.i, .string r.nm, .slice ao r.l.length cap] 38)).alloc (.cells #[.int .i64 0, .int .i64 0, .int .i64 0, .int .i64 0, .int .i64 0, .int .i64 0, .int .i64 0, .int .i64 0, .int .i64 0, .int .i64 0, .string ⟨#[]⟩, .slice none 0 0] 38)).alloc (.cells #[.int .i64 1, .int .i64 r.x.k, .int .i64 r.x.s, .int .i64 r.x.p, .int .i64 0, .int .i64 0, .int .i64 0, .int .i64 0, .int .i64 0, .int .i64 0, .string ⟨#[]⟩, .slice none 0 0] 38)) (w.heap.size + 2) ⟨1, r.x.k, r.x.s, r.x.p, 0, 0, 0, 0, 0, 0⟩ ⟨#[]⟩ (.slice none 0 0) [] ∧ Below w.heap.size w (((w.alloc (.cells #[.int .i64 r.x.v, .int .i64 r.x.k, .int .i64 r.x.s, .int .i64 r.x.p, .int .i64 r.x.t, .int .i64 r.x.a, .int .i64 r.x.l, .int .i64 r.x.c, .int .i64 r.x.n, .int .i64 r.x.i, .string r.nm, .slice ao r.l.length cap] 38)).alloc (.cells #[.int .i64 0, .int .i64 0, .int .i64 0, .int .i64 0, .int .i64 0, .int .i64 0, .int .i64 0, .int .i64 0, .int .i64 0, .int .i64 0, .string ⟨#[]⟩, .slice none 0 0] 38)).alloc (.cells #[.int .i64 1, .int .i64 r.x.k, .int .i64 r.x.s, .int .i64 r.x.p, .int .i64 0, .int .i64 0, .int .i64 0, .int .i64 0, .int .i64 0, .int .i64 0, .string ⟨#[]⟩, .slice none 0 0] 38))) := ⟨(HX.out _ _ _).1, (HX.out _ _ _).2.1, ⟨(HX.out _ _ _).2.2.1, Own.nil _ _⟩, (HX.out _ _ _).2.2.2.1⟩
  have HK' := HK.out
  clear HK HX
  generalize ((w.alloc (.cells #[.int .i64 r.x.v, .int .i64 r.x.k, .int .i64 r.x.s, .int .i64 r.x.p, .int .i64 r.x.t, .int .i64 r.x.a, .int .i64 r.x.l, .int .i64 r.x.c, .int .i64 r.x.n, .int .i64 r.x.i, .string r.nm, .slice ao r.l.length cap] 38)).alloc (.cells #[.int .i64 0, .int .i64 0, .int .i64 0, .int .i64 0, .int .i64 0, .int .i64 0, .int .i64 0, .int .i64 0, .int .i64 0, .int .i64 0, .string ⟨#[]⟩, .slice none 0 0] 38)).alloc (.cells #[.int .i64 1, .int .i64 r.x.k, .int .i64 r.x.s, .int .i64 r.x.p, .int .i64 0, .int .i64 0, .int .i64 0, .int .i64 0, .int .i64 0, .int .i64 0, .string ⟨#[]⟩, .slice none 0 0] 38) = W at HK' ⊢
  go_wp2
  go_loopw [6] (fun i wr => ∃ (k : Nat) (u : Value), k ≤ r.l.length ∧ i = .int .i64 (k : Int) ∧ Box wr w.heap.size r.x r.nm (.slice ao r.l.length cap) ∧ Box wr (w.heap.size + 1) zeroNums ⟨#[]⟩ (.slice none 0 0) ∧ Mid wr (w.heap.size + 2) ⟨1, r.x.k, r.x.s, r.x.p, 0, 0, 0, 0, 0, 0⟩ ⟨#[]⟩ u (r.l.take k) ∧ Below w.heap.size w wr) (fun i _ => r.l.length - (intOf i).toNat)
  case atStart => exact ⟨0, _, Nat.zero_le _, rfl, HK'.1, HK'.2.1, HK'.2.2.1, HK'.2.2.2⟩
  case round =>
    clear HK'
    obtain ⟨k, u, hk, rfl, hbr, hbz, ⟨hbq, how⟩, hbel⟩ := hrel
    by_cases hlt : k < r.l.length
    · obtain ⟨b, off, rfl, hcell⟩ := HCE.out (List.ne_nil_of_length_pos (by omega))
      have hck := (hbel.cell (p := ⟨b, off + k, none⟩) (World.block_lt_of_cell? _ _ (hcell k hlt))).trans (hcell k hlt)
      have h256 := ok_get HOK.out k hlt
      have HS : Hid (r.l.take (k + 1) = r.l.take k ++ [r.l[k]]) := by show _ = _; rw [List.take_succ_eq_append_getElem hlt]
      have hLm : (r.l.take k).length ≤ 20000 := by rw [List.length_take]; omega
      have cr := hbr.cells.2.2.2.2.2.2.2.2.2.2.2
      have cq := hbq.cells.2.2.2.2.2.2.2.2.2.2.2
      have fq := hbq.free' 11
      have hub : ∀ g, u.ownBlock = some g → w.heap.size + 3 ≤ g := fun g hg => (World.ownsRow.lt how.row g hg).1
      have HU : Hid (∀ w', Below wr.heap.size wr w' → Own (w.heap.size + 3) w' u (r.l.take k) ∧ Below w.heap.size w w' ∧ w.heap.size + 3 ≤ w'.heap.size) := fun w' hb => ⟨how.kept hb, andThen hbel hb, by have := hbq.lt; have := hb.size; omega⟩
      have hbl : b < w.heap.size := World.block_lt_of_cell? _ _ (hcell k hlt)
      have HBB : Hid (∀ w', Below wr.heap.size wr w' → Box w' w.heap.size r.x r.nm (.slice (some ⟨b, off, none⟩) r.l.length cap) ∧ Box w' (w.heap.size + 1) zeroNums ⟨#[]⟩ (.slice none 0 0) ∧ Box w' (w.heap.size + 2) ⟨1, r.x.k, r.x.s, r.x.p, 0, 0, 0, 0, 0, 0⟩ ⟨#[]⟩ u) := fun w' hb => ⟨hbr.kept hb, hbz.kept hb, hbq.kept hb⟩
      clear hcell how hbr hbz hbq hbel HCE
      generalize r.l[k] = c at *
      generalize r.l.take k = m at *
      go_wp2
      have HQ : Hid (∀ W w', Below wr.heap.size wr W → W.grownBy w' u.ownBlock → (Box w' w.heap.size r.x r.nm (.slice (some ⟨b, off, none⟩) r.l.length cap) ∧ Box w' (w.heap.size + 1) zeroNums ⟨#[]⟩ (.slice none 0 0) ∧ Box w' (w.heap.size + 2) ⟨1, r.x.k, r.x.s, r.x.p, 0, 0, 0, 0, 0, 0⟩ ⟨#[]⟩ u) ∧ Below w.heap.size w w') := fun W w' hb hg => by
        obtain ⟨h1, h2, h3⟩ := HBB.out _ hb
        have hn : ∀ j, j < w.heap.size + 3 → some j ≠ u.ownBlock := fun j hj e => by have := hub j e.symm; omega
        exact ⟨⟨(hg.block _ h1.lt (hn _ (by omega))).trans h1, (hg.block _ h2.lt (hn _ (by omega))).trans h2, (hg.block _ h3.lt (hn _ (by omega))).trans h3⟩, (HU.out _ hb).2.1.grown hg (HU.out _ hb).2.1.size (fun j hj => by have := hub j hj; omega)⟩
      have cqa : (wr.alloc (.cells #[.int .u8 (c : Int)] 5)).cell? ⟨w.heap.size + 1 + 1, 11, none⟩ = some u := (HBB.out _ (up0 _ _)).2.2.cells.2.2.2.2.2.2.2.2.2.2.2
      have cqb : (wr.alloc (.cells #[.int .u8 (c : Int)] 5)).drew.cell? ⟨w.heap.size + 1 + 1, 11, none⟩ = some u := (HBB.out _ (Below.drew (up0 _ _))).2.2.cells.2.2.2.2.2.2.2.2.2.2.2
      clear HBB hub
      go_region_law (refine step_append rfl (.tmp 43) (.tmp 49) 36 rfl (w.heap.size + 3) hin Tryd.underlying36 u m (by simp [Act.eval]) (HU.out _ (by repeat (first | exact Below.refl _ _ | refine Below.drew ?_ | refine up ?_ _))).1 _ [c] (by simp [Act.eval]; rfl) (by first | exact Bs.one _ c h256 _ rfl | exact (Bs.one _ c h256 _ rfl).drew) (by simp; omega) (HU.out _ (by repeat (first | exact Below.refl _ _ | refine Below.drew ?_ | refine up ?_ _))).2.2 ?_; intro v' w' ho' hb' hgr'; obtain ⟨a3, p3, e3, _⟩ := ho'.bs.shape; simp only [List.length_append, List.length_cons, List.length_nil, Nat.zero_add] at e3; subst e3; have hQ := HQ.out _ _ (by repeat (first | exact Below.refl _ _ | refine Below.drew ?_ | refine up ?_ _)) hgr'; have cq' := hQ.1.2.2.cells.2.2.2.2.2.2.2.2.2.2.2; have fq' := hQ.1.2.2.free' 11)
      all_goals
        have R : Hid (Box (w'.setCell ⟨w.heap.size + 2, 11, none⟩ (.slice a3 (m.length + 1) p3)) w.heap.size r.x r.nm (.slice (some ⟨b, off, none⟩) r.l.length cap) ∧ Box (w'.setCell ⟨w.heap.size + 2, 11, none⟩ (.slice a3 (m.length + 1) p3)) (w.heap.size + 1) zeroNums ⟨#[]⟩ (.slice none 0 0) ∧ Mid (w'.setCell ⟨w.heap.size + 2, 11, none⟩ (.slice a3 (m.length + 1) p3)) (w.heap.size + 2) ⟨1, r.x.k, r.x.s, r.x.p, 0, 0, 0, 0, 0, 0⟩ ⟨#[]⟩ (.slice a3 (m.length + 1) p3) (r.l.take (k + 1)) ∧ Below w.heap.size w (w'.setCell ⟨w.heap.size + 2, 11, none⟩ (.slice a3 (m.length + 1) p3))) := ⟨hQ.1.1.set _ _ (show w.heap.size ≠ w.heap.size + 2 by omega), hQ.1.2.1.set _ _ (show w.heap.size + 1 ≠ w.heap.size + 2 by omega), ⟨box_d' hQ.1.2.2 _, by rw [HS.out]; exact Own.set ho' _ _ (show w.heap.size + 2 < w.heap.size + 3 by omega)⟩, Below.setCell hQ.2 (show w.heap.size ≤ w.heap.size + 2 by omega) _⟩
        clear ho' hb' hgr' hQ cq' fq' HQ HU HS cr cq fq hck cqa cqb
        go_wp2
        go_roundw
        case rel => exact ⟨k + 1, _, by omega, by go_num, R.out.1, R.out.2.1, R.out.2.2.1, R.out.2.2.2⟩
        case measure => simp [intOf]; omega
    · obtain rfl : k = r.l.length := by omega
      rw [List.take_length] at how
      obtain ⟨af, cf, rfl, _⟩ := how.bs.shape
      have HOW : Hid (Own (w.heap.size + 2 + 1) wr (.slice af r.l.length cf) r.l ∧ Below w.heap.size w wr) := ⟨how, hbel⟩
      have HWX : Hid (∃ W, wr = W ∧ Box W (w.heap.size + 1) zeroNums ⟨#[]⟩ (.slice none 0 0) ∧ Box W (w.heap.size + 2) ⟨1, r.x.k, r.x.s, r.x.p, 0, 0, 0, 0, 0, 0⟩ ⟨#[]⟩ (.slice af r.l.length cf) ∧ Own (w.heap.size + 3) W (.slice af r.l.length cf) r.l ∧ Below w.heap.size w W) := ⟨_, rfl, hbz, hbq, HOW.out.1, HOW.out.2⟩
      obtain ⟨c0, c1, c2, c3, c4, c5, c6, c7, c8, c9, c10, c11⟩ := hbr.cells
      obtain ⟨q0, q1, q2, q3, q4, q5, q6, q7, q8, q9, q10, q11⟩ := hbq.cells
      have g0 := hbq.free' 0
      have g1 := hbq.free' 1
      have g2 := hbq.free' 2
      have g3 := hbq.free' 3
      have g4 := hbq.free' 4
      have g5 := hbq.free' 5
      have g6 := hbq.free' 6
      have g7 := hbq.free' 7
      have g8 := hbq.free' 8
      have g9 := hbq.free' 9
      have g10 := hbq.free' 10
      have g11 := hbq.free' 11
      clear hbr hbz hbq how hbel HCE HOW
      go_upto_region 19 with fail
      obtain ⟨W, hW, hz, hq, ho, hB⟩ := HWX.out
      rw [hW]
      clear HWX hW c0 q0 g0 c1 q1 g1 c2 q2 g2 c3 q3 g3 c4 q4 g4 c5 q5 g5 c6 q6 g6 c7 q7 g7 c8 q8 g8 c9 q9 g9 c10 q10 g10 c11 q11 g11
      obtain ⟨z0, z1, z2, z3, z4, z5, z6, z7, z8, z9, z10, z11⟩ := hz.cells
      have f0 := hz.free' 0
      have f1 := hz.free' 1
      have f2 := hz.free' 2
      have f3 := hz.free' 3
      have f4 := hz.free' 4
      have f5 := hz.free' 5
      have f6 := hz.free' 6
      have f7 := hz.free' 7
      have f8 := hz.free' 8
      have f9 := hz.free' 9
      have f10 := hz.free' 10
      have f11 := hz.free' 11
      obtain ⟨q0, q1, q2, q3, q4, q5, q6, q7, q8, q9, q10, q11⟩ := hq.cells
      have g0 := hq.free' 0
      have g1 := hq.free' 1
      have g2 := hq.free' 2
      have g3 := hq.free' 3
      have g4 := hq.free' 4
      have g5 := hq.free' 5
      have g6 := hq.free' 6
      have g7 := hq.free' 7
      have g8 := hq.free' 8
      have g9 := hq.free' 9
      have g10 := hq.free' 10
      have g11 := hq.free' 11
      have HTH : Hid (W.there (w.heap.size + 1) 0 12) := hz.there
      have HF : Hid (Below w.heap.size w (W.setCells (w.heap.size + 1) 0 [.int .i64 1, .int .i64 r.x.k, .int .i64 r.x.s, .int .i64 r.x.p, .int .i64 0, .int .i64 0, .int .i64 0, .int .i64 0, .int .i64 0, .int .i64 0, .string ⟨#[]⟩, .slice af r.l.length cf]) ∧ Bs (W.setCells (w.heap.size + 1) 0 [.int .i64 1, .int .i64 r.x.k, .int .i64 r.x.s, .int .i64 r.x.p, .int .i64 0, .int .i64 0, .int .i64 0, .int .i64 0, .int .i64 0, .int .i64 0, .string ⟨#[]⟩, .slice af r.l.length cf]) (.slice af r.l.length cf) r.l ∧ ∀ g, g < w.heap.size → Off g (.slice af r.l.length cf) r.l) := ⟨below_cells (by omega) _ 0 _ hB, (Own.cells ho _ _ _ (by omega)).bs, fun g hg => off_own ho g (by omega)⟩
      clear hq hz hB ho
      go_wp2
      have HRG := World.rangeAt_setCells_same W (w.heap.size + 1) 0 [.int .i64 1, .int .i64 r.x.k, .int .i64 r.x.s, .int .i64 r.x.p, .int .i64 0, .int .i64 0, .int .i64 0, .int .i64 0, .int .i64 0, .int .i64 0, .string ⟨#[]⟩, .slice af r.l.length cf] HTH.out
      refine bodyPost_ret (results_cell_mid (p := 4) (ty := 38) rfl _ _ (w.heap.size + 1) [.int .i64 1, .int .i64 r.x.k, .int .i64 r.x.s, .int .i64 r.x.p, .int .i64 0, .int .i64 0, .int .i64 0, .int .i64 0, .int .i64 0, .int .i64 0, .string ⟨#[]⟩, .slice af r.l.length cf] _ rfl HRG Tryd.underlying38 rfl HIR.out) rfl ?_
      exact ⟨_, _, rfl, HF.out.2.1, HF.out.2.2, HF.out.1⟩
set_option maxRecDepth 100000 in
set_option maxHeartbeats 4000000 in
theorem guess_C (r : Rec) (d : Value) (w : World) (h : Bs w d r.l) (hs : r.small) (hv : 1 < r.x.v) :
    Calls Tryd.prog 42 #[rv r.x r.nm d, .int .i64 2] w fun e w' => NewR w w' (guessP 2 r) e := by
  have HE : Hid (guessP 2 r = ⟨⟨2, r.x.k, r.x.s, r.x.p, r.x.t, r.x.a, r.x.l, 0, r.x.n, 0⟩, r.nm, r.l⟩) := by show _ = _; unfold guessP; rw [if_neg (fun x => absurd x.2.1 (by decide)), if_neg (by decide), if_pos (by decide)]
  rw [HE.out]
  have hlen := hs.2
  have hin := info5
  have HIR : Hid ((Tryd.prog.info? 38).map (·.size) = some 12) := infoRec
  have hg256 := h.good
  have HX : Hid (∀ o1 o2 o3, (((w.alloc o1).alloc o2).alloc o3).heap[w.heap.size]? = some o1 ∧ (((w.alloc o1).alloc o2).alloc o3).heap[w.heap.size + 1]? = some o2 ∧ (((w.alloc o1).alloc o2).alloc o3).heap[w.heap.size + 2]? = some o3 ∧ Below w.heap.size w (((w.alloc o1).alloc o2).alloc o3) ∧ (((w.alloc o1).alloc o2).alloc o3).heap.size = w.heap.size + 3) := heap3 w
  obtain ⟨ao, cap, rfl, hl0, hmx, hn0, hc0⟩ := h.shape
  have HCE : Hid (r.l ≠ [] → ∃ b off, ao = some ⟨b, off, none⟩ ∧ ∀ (j : Nat) (hj : j < r.l.length), w.cell? ⟨b, off + j, none⟩ = some (.int .u8 (r.l[j] : Int))) := hc0
  unfold maxLen at hmx
  have HOK : Hid (ok r.l) := hg256
  clear h HE hs hc0 hg256
  unfold rv
  go_enter Tryd.func42, Tryd.ntmps42
  go_upto_region 6 with fail
  have HK : Hid (Box (((w.alloc (.cells #[.int .i64 r.x.v, .int .i64 r.x.k, .int .i64 r.x.s, .int .i64 r.x.p, .int .i64 r.x.t, .int .i64 r.x.a, .int .i64 r.x.l, .int .i64 r.x.c, .int .i64 r.x.n, .int .i64 r.x.i, .string r.nm, .slice ao r.l.length cap] 38)).alloc (.cells #[.int .i64 0, .int .i64 0, .int .i64 0, .int .i64 0, .int .i64 0, .int .i64 0, .int .i64 0, .int .i64 0, .int .i64 0, .int .i64 0, .string ⟨#[]⟩, .slice none 0 0] 38)).alloc (.cells #[.int .i64 2, .int .i64 r.x.k, .int .i64 r.x.s, .int .i64 r.x.p, .int .i64 0, .int .i64 0, .int .i64 0, .int .i64 0, .int .i64 0, .int .i64 0, .string ⟨#[]⟩, .slice none 0 0] 38)) w.heap.size r.x r.nm (.slice ao r.l.length cap) ∧ Box (((w.alloc (.cells #[.int .i64 r.x.v, .int .i64 r.x.k, .int .i64 r.x.s, .int .i64 r.x.p, .int .i64 r.x.t, .int .i64 r.x.a, .int .i64 r.x.l, .int .i64 r.x.c, .int .i64 r.x.n, .int .i64 r.x.i, .string r.nm, .slice ao r.l.length cap] 38)).alloc (.cells #[.int .i64 0, .int .i64 0, .int .i64 0, .int .i64 0, .int .i64 0, .int .i64 0, .int .i64 0, .int .i64 0, .int .i64 0, .int .i64 0, .string ⟨#[]⟩, .slice none 0 0] 38)).alloc (.cells #[.int .i64 2, .int .i64 r.x.k, .int .i64 r.x.s, .int .i64 r.x.p, .int .i64 0, .int .i64 0, .int .i64 0, .int .i64 0, .int .i64 0, .int .i64 0, .string ⟨#[]⟩, .slice none 0 0] 38)) (w.heap.size + 1) zeroNums ⟨#[]⟩ (.slice none 0 0) ∧ Mid (((w.alloc (.cells #[.int .i64 r.x.v, .int .i64 r.x.k, .int .i64 r.x.s, .int .i64 r.x.p, .int .i64 r.x.t, .int .i64 r.x.a, .int .i64 r.x.l, .int .i64 r.x.c, .int .i64 r.x.n, .int .i64 r.x.i, .string r.nm, .slice ao r.l.length cap] 38)).alloc (.cells #[.int .i64 0, .int .i64 0, .int .i64 0, .int .i64 0, .int .i64 0, .int .i64 0, .int .i64 0, .int .i64 0, .int .i64 0, .int .i64 0, .string ⟨#[]⟩, .slice none 0 0] 38)).alloc (.cells #[.int .i64 2, .int .i64 r.x.k, .int .i64 r.x.s, .int .i64 r.x.p, .int .i64 0, .int .i64 0, .int .i64 0, .int .i64 0, .int .i64 0, .int .i64 0, .string ⟨#[]⟩, .slice none 0 0] 38)) (w.heap.size + 2) ⟨2, r.x.k, r.x.s, r.x.p, 0, 0, 0, 0, 0, 0⟩ ⟨#[]⟩ (.slice none 0 0) [] ∧ Below w.heap.size w (((w.alloc (.cells #[.int .i64 r.x.v, .int .i64 r.x.k, .int .i64 r.x.s, .int .i64 r.x.p, .int .i64 r.x.t, .int .i64 r.x.a, .int .i64 r.x.l, .int .i64 r.x.c, .int .i64 r.x.n, .int .i64 r.x.i, .string r.nm, .slice ao r.l.length cap] 38)).alloc (.cells #[.int .i64 0, .int .i64 0, .int .i64 0, .int .i64 0, .int .i64 0, .int .i64 0, .int .i64 0, .int .i64 0, .int .i64 0, .int .i64 0, .string ⟨#[]⟩, .slice none 0 0] 38)).alloc (.cells #[.int .i64 2, .int .i64 r.x.k, .int .i64 r.x.s, .int .i64 r.x.p, .int .i64 0, .int .i64 0, .int .i64 0, .int .i64 0, .int .i64 0, .int .i64 0, .string ⟨#[]⟩, .slice none 0 0] 38))) := ⟨(HX.out _ _ _).1, (HX.out _ _ _).2.1, ⟨(HX.out _ _ _).2.2.1, Own.nil _ _⟩, (HX.out _ _ _).2.2.2.1⟩
  have HK' := HK.out
  clear HK HX
  generalize ((w.alloc (.cells #[.int .i64 r.x.v, .int .i64 r.x.k, .int .i64 r.x.s, .int .i64 r.x.p, .int .i64 r.x.t, .int .i64 r.x.a, .int .i64 r.x.l, .int .i64 r.x.c, .int .i64 r.x.n, .int .i64 r.x.i, .string r.nm, .slice ao r.l.length cap] 38)).alloc (.cells #[.int .i64 0, .int .i64 0, .int .i64 0, .int .i64 0, .int .i64 0, .int .i64 0, .int .i64 0, .int .i64 0, .int .i64 0, .int .i64 0, .string ⟨#[]⟩, .slice none 0 0] 38)).alloc (.cells #[.int .i64 2, .int .i64 r.x.k, .int .i64 r.x.s, .int .i64 r.x.p, .int .i64 0, .int .i64 0, .int .i64 0, .int .i64 0, .int .i64 0, .int .i64 0, .string ⟨#[]⟩, .slice none 0 0] 38) = W at HK' ⊢
  go_wp2
  go_loopw [6] (fun i wr => ∃ (k : Nat) (u : Value), k ≤ r.l.length ∧ i = .int .i64 (k : Int) ∧ Box wr w.heap.size r.x r.nm (.slice ao r.l.length cap) ∧ Box wr (w.heap.size + 1) zeroNums ⟨#[]⟩ (.slice none 0 0) ∧ Mid wr (w.heap.size + 2) ⟨2, r.x.k, r.x.s, r.x.p, 0, 0, 0, 0, 0, 0⟩ ⟨#[]⟩ u (r.l.take k) ∧ Below w.heap.size w wr) (fun i _ => r.l.length - (intOf i).toNat)
  case atStart => exact ⟨0, _, Nat.zero_le _, rfl, HK'.1, HK'.2.1, HK'.2.2.1, HK'.2.2.2⟩
  case round =>
    clear HK'
    obtain ⟨k, u, hk, rfl, hbr, hbz, ⟨hbq, how⟩, hbel⟩ := hrel
    by_cases hlt : k < r.l.length
    · obtain ⟨b, off, rfl, hcell⟩ := HCE.out (List.ne_nil_of_length_pos (by omega))
      have hck := (hbel.cell (p := ⟨b, off + k, none⟩) (World.block_lt_of_cell? _ _ (hcell k hlt))).trans (hcell k hlt)
      have h256 := ok_get HOK.out k hlt
      have HS : Hid (r.l.take (k + 1) = r.l.take k ++ [r.l[k]]) := by show _ = _; rw [List.take_succ_eq_append_getElem hlt]
      have hLm : (r.l.take k).length ≤ 20000 := by rw [List.length_take]; omega
      have cr := hbr.cells.2.2.2.2.2.2.2.2.2.2.2
      have cq := hbq.cells.2.2.2.2.2.2.2.2.2.2.2
      have fq := hbq.free' 11
      have hub : ∀ g, u.ownBlock = some g → w.heap.size + 3 ≤ g := fun g hg => (World.ownsRow.lt how.row g hg).1
      have HU : Hid (∀ w', Below wr.heap.size wr w' → Own (w.heap.size + 3) w' u (r.l.take k) ∧ Below w.heap.size w w' ∧ w.heap.size + 3 ≤ w'.heap.size) := fun w' hb => ⟨how.kept hb, andThen hbel hb, by have := hbq.lt; have := hb.size; omega⟩
      have hbl : b < w.heap.size := World.block_lt_of_cell? _ _ (hcell k hlt)
      have HBB : Hid (∀ w', Below wr.heap.size wr w' → Box w' w.heap.size r.x r.nm (.slice (some ⟨b, off, none⟩) r.l.length cap) ∧ Box w' (w.heap.size + 1) zeroNums ⟨#[]⟩ (.slice none 0 0) ∧ Box w' (w.heap.size + 2) ⟨2, r.x.k, r.x.s, r.x.p, 0, 0, 0, 0, 0, 0⟩ ⟨#[]⟩ u) := fun w' hb => ⟨hbr.kept hb, hbz.kept hb, hbq.kept hb⟩
      clear hcell how hbr hbz hbq hbel HCE
      generalize r.l[k] = c at *
      generalize r.l.take k = m at *
      go_wp2
      have HQ : Hid (∀ W w', Below wr.heap.size wr W → W.grownBy w' u.ownBlock → (Box w' w.heap.size r.x r.nm (.slice (some ⟨b, off, none⟩) r.l.length cap) ∧ Box w' (w.heap.size + 1) zeroNums ⟨#[]⟩ (.slice none 0 0) ∧ Box w' (w.heap.size + 2) ⟨2, r.x.k, r.x.s, r.x.p, 0, 0, 0, 0, 0, 0⟩ ⟨#[]⟩ u) ∧ Below w.heap.size w w') := fun W w' hb hg => by
        obtain ⟨h1, h2, h3⟩ := HBB.out _ hb
        have hn : ∀ j, j < w.heap.size + 3 → some j ≠ u.ownBlock := fun j hj e => by have := hub j e.symm; omega
        exact ⟨⟨(hg.block _ h1.lt (hn _ (by omega))).trans h1, (hg.block _ h2.lt (hn _ (by omega))).trans h2, (hg.block _ h3.lt (hn _ (by omega))).trans h3⟩, (HU.out _ hb).2.1.grown hg (HU.out _ hb).2.1.size (fun j hj => by have := hub j hj; omega)⟩
      have cqa : (wr.alloc (.cells #[.int .u8 (c : Int)] 5)).cell? ⟨w.heap.size + 1 + 1, 11, none⟩ = some u := (HBB.out _ (up0 _ _)).2.2.cells.2.2.2.2.2.2.2.2.2.2.2
      have cqb : (wr.alloc (.cells #[.int .u8 (c : Int)] 5)).drew.cell? ⟨w.heap.size + 1 + 1, 11, none⟩ = some u := (HBB.out _ (Below.drew (up0 _ _))).2.2.cells.2.2.2.2.2.2.2.2.2.2.2
      clear HBB hub
      go_region_law (refine step_append rfl (.tmp 43) (.tmp 49) 36 rfl (w.heap.size + 3) hin Tryd.underlying36 u m (by simp [Act.eval]) (HU.out _ (by repeat (first | exact Below.refl _ _ | refine Below.drew ?_ | refine up ?_ _))).1 _ [c] (by simp [Act.eval]; rfl) (by first | exact Bs.one _ c h256 _ rfl | exact (Bs.one _ c h256 _ rfl).drew) (by simp; omega) (HU.out _ (by repeat (first | exact Below.refl _ _ | refine Below.drew ?_ | refine up ?_ _))).2.2 ?_; intro v' w' ho' hb' hgr'; obtain ⟨a3, p3, e3, _⟩ := ho'.bs.shape; simp only [List.length_append, List.length_cons, List.length_nil, Nat.zero_add] at e3; subst e3; have hQ := HQ.out _ _ (by repeat (first | exact Below.refl _ _ | refine Below.drew ?_ | refine up ?_ _)) hgr'; have cq' := hQ.1.2.2.cells.2.2.2.2.2.2.2.2.2.2.2; have fq' := hQ.1.2.2.free' 11)
      all_goals
        have R : Hid (Box (w'.setCell ⟨w.heap.size + 2, 11, none⟩ (.slice a3 (m.length + 1) p3)) w.heap.size r.x r.nm (.slice (some ⟨b, off, none⟩) r.l.length cap) ∧ Box (w'.setCell ⟨w.heap.size + 2, 11, none⟩ (.slice a3 (m.length + 1) p3)) (w.heap.size + 1) zeroNums ⟨#[]⟩ (.slice none 0 0) ∧ Mid (w'.setCell ⟨w.heap.size + 2, 11, none⟩ (.slice a3 (m.length + 1) p3)) (w.heap.size + 2) ⟨2, r.x.k, r.x.s, r.x.p, 0, 0, 0, 0, 0, 0⟩ ⟨#[]⟩ (.slice a3 (m.length + 1) p3) (r.l.take (k + 1)) ∧ Below w.heap.size w (w'.setCell ⟨w.heap.size + 2, 11, none⟩ (.slice a3 (m.length + 1) p3))) := ⟨hQ.1.1.set _ _ (show w.heap.size ≠ w.heap.size + 2 by omega), hQ.1.2.1.set _ _ (show w.heap.size + 1 ≠ w.heap.size + 2 by omega), ⟨box_d' hQ.1.2.2 _, by rw [HS.out]; exact Own.set ho' _ _ (show w.heap.size + 2 < w.heap.size + 3 by omega)⟩, Below.setCell hQ.2 (show w.heap.size ≤ w.heap.size + 2 by omega) _⟩
        clear ho' hb' hgr' hQ cq' fq' HQ HU HS cr cq fq hck cqa cqb
        go_wp2
        go_roundw
        case rel => exact ⟨k + 1, _, by omega, by go_num, R.out.1, R.out.2.1, R.out.2.2.1, R.out.2.2.2⟩
        case measure => simp [intOf]; omega
    · obtain rfl : k = r.l.length := by omega
      rw [List.take_length] at how
      obtain ⟨af, cf, rfl, _⟩ := how.bs.shape
      have HOW : Hid (Own (w.heap.size + 2 + 1) wr (.slice af r.l.length cf) r.l ∧ Below w.heap.size w wr) := ⟨how, hbel⟩
      have HWX : Hid (∃ W, (((((wr.setCell ⟨w.heap.size + 1 + 1, 4, none⟩ (.int .i64 r.x.t)).setCell ⟨w.heap.size + 1 + 1, 5, none⟩ (.int .i64 r.x.a)).setCell ⟨w.heap.size + 1 + 1, 6, none⟩ (.int .i64 r.x.l)).setCell ⟨w.heap.size + 1 + 1, 8, none⟩ (.int .i64 r.x.n)).setCell ⟨w.heap.size + 1 + 1, 10, none⟩ (.string r.nm)) = W ∧ Box W (w.heap.size + 1) zeroNums ⟨#[]⟩ (.slice none 0 0) ∧ Box W (w.heap.size + 2) ⟨2, r.x.k, r.x.s, r.x.p, r.x.t, r.x.a, r.x.l, 0, r.x.n, 0⟩ r.nm (.slice af r.l.length cf) ∧ Own (w.heap.size + 3) W (.slice af r.l.length cf) r.l ∧ Below w.heap.size w W) := ⟨_, rfl, (Box.set (Box.set (Box.set (Box.set (Box.set hbz _ _ (show w.heap.size + 1 ≠ w.heap.size + 1 + 1 by omega)) _ _ (show w.heap.size + 1 ≠ w.heap.size + 1 + 1 by omega)) _ _ (show w.heap.size + 1 ≠ w.heap.size + 1 + 1 by omega)) _ _ (show w.heap.size + 1 ≠ w.heap.size + 1 + 1 by omega)) _ _ (show w.heap.size + 1 ≠ w.heap.size + 1 + 1 by omega)), box_to2 hbq _ _ _ _ _, (Own.set (Own.set (Own.set (Own.set (Own.set HOW.out.1 _ _ (show w.heap.size + 1 + 1 < w.heap.size + 3 by omega)) _ _ (show w.heap.size + 1 + 1 < w.heap.size + 3 by omega)) _ _ (show w.heap.size + 1 + 1 < w.heap.size + 3 by omega)) _ _ (show w.heap.size + 1 + 1 < w.heap.size + 3 by omega)) _ _ (show w.heap.size + 1 + 1 < w.heap.size + 3 by omega)), (Below.setCell (Below.setCell (Below.setCell (Below.setCell (Below.setCell HOW.out.2 (show w.heap.size ≤ w.heap.size + 1 + 1 by omega) _) (show w.heap.size ≤ w.heap.size + 1 + 1 by omega) _) (show w.heap.size ≤ w.heap.size + 1 + 1 by omega) _) (show w.heap.size ≤ w.heap.size + 1 + 1 by omega) _) (show w.heap.size ≤ w.heap.size + 1 + 1 by omega) _)⟩
      obtain ⟨c0, c1, c2, c3, c4, c5, c6, c7, c8, c9, c10, c11⟩ := hbr.cells
      obtain ⟨q0, q1, q2, q3, q4, q5, q6, q7, q8, q9, q10, q11⟩ := hbq.cells
      have g0 := hbq.free' 0
      have g1 := hbq.free' 1
      have g2 := hbq.free' 2
      have g3 := hbq.free' 3
      have g4 := hbq.free' 4
      have g5 := hbq.free' 5
      have g6 := hbq.free' 6
      have g7 := hbq.free' 7
      have g8 := hbq.free' 8
      have g9 := hbq.free' 9
      have g10 := hbq.free' 10
      have g11 := hbq.free' 11
      clear hbr hbz hbq how hbel HCE HOW
      go_upto_region 19 with fail
      obtain ⟨W, hW, hz, hq, ho, hB⟩ := HWX.out
      rw [hW]
      clear HWX hW c0 q0 g0 c1 q1 g1 c2 q2 g2 c3 q3 g3 c4 q4 g4 c5 q5 g5 c6 q6 g6 c7 q7 g7 c8 q8 g8 c9 q9 g9 c10 q10 g10 c11 q11 g11
      obtain ⟨z0, z1, z2, z3, z4, z5, z6, z7, z8, z9, z10, z11⟩ := hz.cells
      have f0 := hz.free' 0
      have f1 := hz.free' 1
      have f2 := hz.free' 2
      have f3 := hz.free' 3
      have f4 := hz.free' 4
      have f5 := hz.free' 5
      have f6 := hz.free' 6
      have f7 := hz.free' 7
      have f8 := hz.free' 8
      have f9 := hz.free' 9
      have f10 := hz.free' 10
      have f11 := hz.free' 11
      obtain ⟨q0, q1, q2, q3, q4, q5, q6, q7, q8, q9, q10, q11⟩ := hq.cells
      have g0 := hq.free' 0
      have g1 := hq.free' 1
      have g2 := hq.free' 2
      have g3 := hq.free' 3
      have g4 := hq.free' 4
      have g5 := hq.free' 5
      have g6 := hq.free' 6
      have g7 := hq.free' 7
      have g8 := hq.free' 8
      have g9 := hq.free' 9
      have g10 := hq.free' 10
      have g11 := hq.free' 11
      have HTH : Hid (W.there (w.heap.size + 1) 0 12) := hz.there
      have HF : Hid (Below w.heap.size w (W.setCells (w.heap.size + 1) 0 [.int .i64 2, .int .i64 r.x.k, .int .i64 r.x.s, .int .i64 r.x.p, .int .i64 r.x.t, .int .i64 r.x.a, .int .i64 r.x.l, .int .i64 0, .int .i64 r.x.n, .int .i64 0, .string r.nm, .slice af r.l.length cf]) ∧ Bs (W.setCells (w.heap.size + 1) 0 [.int .i64 2, .int .i64 r.x.k, .int .i64 r.x.s, .int .i64 r.x.p, .int .i64 r.x.t, .int .i64 r.x.a, .int .i64 r.x.l, .int .i64 0, .int .i64 r.x.n, .int .i64 0, .string r.nm, .slice af r.l.length cf]) (.slice af r.l.length cf) r.l ∧ ∀ g, g < w.heap.size → Off g (.slice af r.l.length cf) r.l) := ⟨below_cells (by omega) _ 0 _ hB, (Own.cells ho _ _ _ (by omega)).bs, fun g hg => off_own ho g (by omega)⟩
      clear hq hz hB ho
      go_wp2
      have HRG := World.rangeAt_setCells_same W (w.heap.size + 1) 0 [.int .i64 2, .int .i64 r.x.k, .int .i64 r.x.s, .int .i64 r.x.p, .int .i64 r.x.t, .int .i64 r.x.a, .int .i64 r.x.l, .int .i64 0, .int .i64 r.x.n, .int .i64 0, .string r.nm, .slice af r.l.length cf] HTH.out
      refine bodyPost_ret (results_cell_mid (p := 4) (ty := 38) rfl _ _ (w.heap.size + 1) [.int .i64 2, .int .i64 r.x.k, .int .i64 r.x.s, .int .i64 r.x.p, .int .i64 r.x.t, .int .i64 r.x.a, .int .i64 r.x.l, .int .i64 0, .int .i64 r.x.n, .int .i64 0, .string r.nm, .slice af r.l.length cf] _ rfl HRG Tryd.underlying38 rfl HIR.out) rfl ?_
      exact ⟨_, _, rfl, HF.out.2.1, HF.out.2.2, HF.out.1⟩
set_option maxRecDepth 100000 in
set_option maxHeartbeats 4000000 in
theorem guess_D (r : Rec) (d : Value) (w : World) (h : Bs w d r.l) (hs : r.small) (hv : 1 < r.x.v) :
    Calls Tryd.prog 42 #[rv r.x r.nm d, .int .i64 3] w fun e w' => NewR w w' (guessP 3 r) e := by
  have HE : Hid (guessP 3 r = ⟨⟨3, r.x.k, r.x.s, r.x.p, r.x.t, r.x.a, r.x.l, r.x.c, r.x.n, r.x.i⟩, r.nm, r.l⟩) := by show _ = _; unfold guessP; rw [if_neg (fun x => absurd x.2.1 (by decide)), if_neg (by decide), if_neg (by decide)]
  rw [HE.out]
  have hlen := hs.2
  have hin := info5
  have HIR : Hid ((Tryd.prog.info? 38).map (·.size) = some 12) := infoRec
  have hg256 := h.good
  have HX : Hid (∀ o1 o2 o3, (((w.alloc o1).alloc o2).alloc o3).heap[w.heap.size]? = some o1 ∧ (((w.alloc o1).alloc o2).alloc o3).heap[w.heap.size + 1]? = some o2 ∧ (((w.alloc o1).alloc o2).alloc o3).heap[w.heap.size + 2]? = some o3 ∧ Below w.heap.size w (((w.alloc o1).alloc o2).alloc o3) ∧ (((w.alloc o1).alloc o2).alloc o3).heap.size = w.heap.size + 3) := heap3 w
  obtain ⟨ao, cap, rfl, hl0, hmx, hn0, hc0⟩ := h.shape
  have HCE : Hid (r.l ≠ [] → ∃ b off, ao = some ⟨b, off, none⟩ ∧ ∀ (j : Nat) (hj : j < r.l.length), w.cell? ⟨b, off + j, none⟩ = some (.int .u8 (r.l[j] : Int))) := hc0
  unfold maxLen at hmx
  have HOK : Hid (ok r.l) := hg256
  clear h HE hs hc0 hg256
  unfold rv
  go_enter Tryd.func42, Tryd.ntmps42
  go_upto_region 6 with fail
  have HK : Hid (Box (((w.alloc (.cells #[.int .i64 r.x.v, .int .i64 r.x.k, .int .i64 r.x.s, .int .i64 r.x.p, .int .i64 r.x.t, .int .i64 r.x.a, .int .i64 r.x.l, .int .i64 r.x.c, .int .i64 r.x.n, .int .i64 r.x.i, .string r.nm, .slice ao r.l.length cap] 38)).alloc (.cells #[.int .i64 0, .int .i64 0, .int .i64 0, .int .i64 0, .int .i64 0, .int .i64 0, .int .i64 0, .int .i64 0, .int .i64 0, .int .i64 0, .string ⟨#[]⟩, .slice none 0 0] 38)).alloc (.cells #[.int .i64 3, .int .i64 r.x.k, .int .i64 r.x.s, .int .i64 r.x.p, .int .i64 0, .int .i64 0, .int .i64 0, .int .i64 0, .int .i64 0, .int .i64 0, .string ⟨#[]⟩, .slice none 0 0] 38)) w.heap.size r.x r.nm (.slice ao r.l.length cap) ∧ Box (((w.alloc (.cells #[.int .i64 r.x.v, .int .i64 r.x.k, .int .i64 r.x.s, .int .i64 r.x.p, .int .i64 r.x.t, .int .i64 r.x.a, .int .i64 r.x.l, .int .i64 r.x.c, .int .i64 r.x.n, .int .i64 r.x.i, .string r.nm, .slice ao r.l.length cap] 38)).alloc (.cells #[.int .i64 0, .int .i64 0, .int .i64 0, .int .i64 0, .int .i64 0, .int .i64 0, .int .i64 0, .int .i64 0, .int .i64 0, .int .i64 0, .string ⟨#[]⟩, .slice none 0 0] 38)).alloc (.cells #[.int .i64 3, .int .i64 r.x.k, .int .i64 r.x.s, .int .i64 r.x.p, .int .i64 0, .int .i64 0, .int .i64 0, .int .i64 0, .int .i64 0, .int .i64 0, .string ⟨#[]⟩, .slice none 0 0] 38)) (w.heap.size + 1) zeroNums ⟨#[]⟩ (.slice none 0 0) ∧ Mid (((w.alloc (.cells #[.int .i64 r.x.v, .int .i64 r.x.k, .int .i64 r.x.s, .int .i64 r.x.p, .int .i64 r.x.t, .int .i64 r.x.a, .int .i64 r.x.l, .int .i64 r.x.c, .int .i64 r.x.n, .int .i64 r.x.i, .string r.nm, .slice ao r.l.length cap] 38)).alloc (.cells #[.int .i64 0, .int .i64 0, .int .i64 0, .int .i64 0, .int .i64 0, .int .i64 0, .int .i64 0, .int .i64 0, .int .i64 0, .int .i64 0, .string ⟨#[]⟩, .slice none 0 0] 38)).alloc (.cells #[.int .i64 3, .int .i64 r.x.k, .int .i64 r.x.s, .int .i64 r.x.p, .int .i64 0, .int .i64 0, .int .i64 0, .int .i64 0, .int .i64 0, .int .i64 0, .string ⟨#[]⟩, .slice none 0 0] 38)) (w.heap.size + 2) ⟨3, r.x.k, r.x.s, r.x.p, 0, 0, 0, 0, 0, 0⟩ ⟨#[]⟩ (.slice none 0 0) [] ∧ Below w.heap.size w (((w.alloc (.cells #[.int .i64 r.x.v, .int .i64 r.x.k, .int .i64 r.x.s, .int .i64 r.x.p, .int .i64 r.x.t, .int .i64 r.x.a, .int .i64 r.x.l, .int .i64 r.x.c, .int .i64 r.x.n, .int .i64 r.x.i, .string r.nm, .slice ao r.l.length cap] 38)).alloc (.cells #[.int .i64 0, .int .i64 0, .int .i64 0, .int .i64 0, .int .i64 0, .int .i64 0, .int .i64 0, .int .i64 0, .int .i64 0, .int .i64 0, .string ⟨#[]⟩, .slice none 0 0] 38)).alloc (.cells #[.int .i64 3, .int .i64 r.x.k, .int .i64 r.x.s, .int .i64 r.x.p, .int .i64 0, .int .i64 0, .int .i64 0, .int .i64 0, .int .i64 0, .int .i64 0, .string ⟨#[]⟩, .slice none 0 0] 38))) := ⟨(HX.out _ _ _).1, (HX.out _ _ _).2.1, ⟨(HX.out _ _ _).2.2.1, Own.nil _ _⟩, (HX.out _ _ _).2.2.2.1⟩
  have HK' := HK.out
  clear HK HX
  generalize ((w.alloc (.cells #[.int .i64 r.x.v, .int .i64 r.x.k, .int .i64 r.x.s, .int .i64 r.x.p, .int .i64 r.x.t, .int .i64 r.x.a, .int .i64 r.x.l, .int .i64 r.x.c, .int .i64 r.x.n, .int .i64 r.x.i, .string r.nm, .slice ao r.l.length cap] 38)).alloc (.cells #[.int .i64 0, .int .i64 0, .int .i64 0, .int .i64 0, .int .i64 0, .int .i64 0, .int .i64 0, .int .i64 0, .int .i64 0, .int .i64 0, .string ⟨#[]⟩, .slice none 0 0] 38)).alloc (.cells #[.int .i64 3, .int .i64 r.x.k, .int .i64 r.x.s, .int .i64 r.x.p, .int .i64 0, .int .i64 0, .int .i64 0, .int .i64 0, .int .i64 0, .int .i64 0, .string ⟨#[]⟩, .slice none 0 0] 38) = W at HK' ⊢
  go_wp2
  go_loopw [6] (fun i wr => ∃ (k : Nat) (u : Value), k ≤ r.l.length ∧ i = .int .i64 (k : Int) ∧ Box wr w.heap.size r.x r.nm (.slice ao r.l.length cap) ∧ Box wr (w.heap.size + 1) zeroNums ⟨#[]⟩ (.slice none 0 0) ∧ Mid wr (w.heap.size + 2) ⟨3, r.x.k, r.x.s, r.x.p, 0, 0, 0, 0, 0, 0⟩ ⟨#[]⟩ u (r.l.take k) ∧ Below w.heap.size w wr) (fun i _ => r.l.length - (intOf i).toNat)
  case atStart => exact ⟨0, _, Nat.zero_le _, rfl, HK'.1, HK'.2.1, HK'.2.2.1, HK'.2.2.2⟩
  case round =>
    clear HK'
    obtain ⟨k, u, hk, rfl, hbr, hbz, ⟨hbq, how⟩, hbel⟩ := hrel
    by_cases hlt : k < r.l.length
    · obtain ⟨b, off, rfl, hcell⟩ := HCE.out (List.ne_nil_of_length_pos (by omega))
      have hck := (hbel.cell (p := ⟨b, off + k, none⟩) (World.block_lt_of_cell? _ _ (hcell k hlt))).trans (hcell k hlt)
      have h256 := ok_get HOK.out k hlt
      have HS : Hid (r.l.take (k + 1) = r.l.take k ++ [r.l[k]]) := by show _ = _; rw [List.take_succ_eq_append_getElem hlt]
      have hLm : (r.l.take k).length ≤ 20000 := by rw [List.length_take]; omega
      have cr := hbr.cells.2.2.2.2.2.2.2.2.2.2.2
      have cq := hbq.cells.2.2.2.2.2.2.2.2.2.2.2
      have fq := hbq.free' 11
      have hub : ∀ g, u.ownBlock = some g → w.heap.size + 3 ≤ g := fun g hg => (World.ownsRow.lt how.row g hg).1
      have HU : Hid (∀ w', Below wr.heap.size wr w' → Own (w.heap.size + 3) w' u (r.l.take k) ∧ Below w.heap.size w w' ∧ w.heap.size + 3 ≤ w'.heap.size) := fun w' hb => ⟨how.kept hb, andThen hbel hb, by have := hbq.lt; have := hb.size; omega⟩
      have hbl : b < w.heap.size := World.block_lt_of_cell? _ _ (hcell k hlt)
      have HBB : Hid (∀ w', Below wr.heap.size wr w' → Box w' w.heap.size r.x r.nm (.slice (some ⟨b, off, none⟩) r.l.length cap) ∧ Box w' (w.heap.size + 1) zeroNums ⟨#[]⟩ (.slice none 0 0) ∧ Box w' (w.heap.size + 2) ⟨3, r.x.k, r.x.s, r.x.p, 0, 0, 0, 0, 0, 0⟩ ⟨#[]⟩ u) := fun w' hb => ⟨hbr.kept hb, hbz.kept hb, hbq.kept hb⟩
      clear hcell how hbr hbz hbq hbel HCE
      generalize r.l[k] = c at *
      generalize r.l.take k = m at *
      go_wp2
      have HQ : Hid (∀ W w', Below wr.heap.size wr W → W.grownBy w' u.ownBlock → (Box w' w.heap.size r.x r.nm (.slice (some ⟨b, off, none⟩) r.l.length cap) ∧ Box w' (w.heap.size + 1) zeroNums ⟨#[]⟩ (.slice none 0 0) ∧ Box w' (w.heap.size + 2) ⟨3, r.x.k, r.x.s, r.x.p, 0, 0, 0, 0, 0, 0⟩ ⟨#[]⟩ u) ∧ Below w.heap.size w w') := fun W w' hb hg => by
        obtain ⟨h1, h2, h3⟩ := HBB.out _ hb
        have hn : ∀ j, j < w.heap.size + 3 → some j ≠ u.ownBlock := fun j hj e => by have := hub j e.symm; omega
        exact ⟨⟨(hg.block _ h1.lt (hn _ (by omega))).trans h1, (hg.block _ h2.lt (hn _ (by omega))).trans h2, (hg.block _ h3.lt (hn _ (by omega))).trans h3⟩, (HU.out _ hb).2.1.grown hg (HU.out _ hb).2.1.size (fun j hj => by have := hub j hj; omega)⟩
      have cqa : (wr.alloc (.cells #[.int .u8 (c : Int)] 5)).cell? ⟨w.heap.size + 1 + 1, 11, none⟩ = some u := (HBB.out _ (up0 _ _)).2.2.cells.2.2.2.2.2.2.2.2.2.2.2
      have cqb : (wr.alloc (.cells #[.int .u8 (c : Int)] 5)).drew.cell? ⟨w.heap.size + 1 + 1, 11, none⟩ = some u := (HBB.out _ (Below.drew (up0 _ _))).2.2.cells.2.2.2.2.2.2.2.2.2.2.2
      clear HBB hub
      go_region_law (refine step_append rfl (.tmp 43) (.tmp 49) 36 rfl (w.heap.size + 3) hin Tryd.underlying36 u m (by simp [Act.eval]) (HU.out _ (by repeat (first | exact Below.refl _ _ | refine Below.drew ?_ | refine up ?_ _))).1 _ [c] (by simp [Act.eval]; rfl) (by first | exact Bs.one _ c h256 _ rfl | exact (Bs.one _ c h256 _ rfl).drew) (by simp; omega) (HU.out _ (by repeat (first | exact Below.refl _ _ | refine Below.drew ?_ | refine up ?_ _))).2.2 ?_; intro v' w' ho' hb' hgr'; obtain ⟨a3, p3, e3, _⟩ := ho'.bs.shape; simp only [List.length_append, List.length_cons, List.length_nil, Nat.zero_add] at e3; subst e3; have hQ := HQ.out _ _ (by repeat (first | exact Below.refl _ _ | refine Below.drew ?_ | refine up ?_ _)) hgr'; have cq' := hQ.1.2.2.cells.2.2.2.2.2.2.2.2.2.2.2; have fq' := hQ.1.2.2.free' 11)
      all_goals
        have R : Hid (Box (w'.setCell ⟨w.heap.size + 2, 11, none⟩ (.slice a3 (m.length + 1) p3)) w.heap.size r.x r.nm (.slice (some ⟨b, off, none⟩) r.l.length cap) ∧ Box (w'.setCell ⟨w.heap.size + 2, 11, none⟩ (.slice a3 (m.length + 1) p3)) (w.heap.size + 1) zeroNums ⟨#[]⟩ (.slice none 0 0) ∧ Mid (w'.setCell ⟨w.heap.size + 2, 11, none⟩ (.slice a3 (m.length + 1) p3)) (w.heap.size + 2) ⟨3, r.x.k, r.x.s, r.x.p, 0, 0, 0, 0, 0, 0⟩ ⟨#[]⟩ (.slice a3 (m.length + 1) p3) (r.l.take (k + 1)) ∧ Below w.heap.size w (w'.setCell ⟨w.heap.size + 2, 11, none⟩ (.slice a3 (m.length + 1) p3))) := ⟨hQ.1.1.set _ _ (show w.heap.size ≠ w.heap.size + 2 by omega), hQ.1.2.1.set _ _ (show w.heap.size + 1 ≠ w.heap.size + 2 by omega), ⟨box_d' hQ.1.2.2 _, by rw [HS.out]; exact Own.set ho' _ _ (show w.heap.size + 2 < w.heap.size + 3 by omega)⟩, Below.setCell hQ.2 (show w.heap.size ≤ w.heap.size + 2 by omega) _⟩
        clear ho' hb' hgr' hQ cq' fq' HQ HU HS cr cq fq hck cqa cqb
        go_wp2
        go_roundw
        case rel => exact ⟨k + 1, _, by omega, by go_num, R.out.1, R.out.2.1, R.out.2.2.1, R.out.2.2.2⟩
        case measure => simp [intOf]; omega
    · obtain rfl : k = r.l.length := by omega
      rw [List.take_length] at how
      obtain ⟨af, cf, rfl, _⟩ := how.bs.shape
      have HOW : Hid (Own (w.heap.size + 2 + 1) wr (.slice af r.l.length cf) r.l ∧ Below w.heap.size w wr) := ⟨how, hbel⟩
      have HWX : Hid (∃ W, (((((((wr.setCell ⟨w.heap.size + 1 + 1, 4, none⟩ (.int .i64 r.x.t)).setCell ⟨w.heap.size + 1 + 1, 5, none⟩ (.int .i64 r.x.a)).setCell ⟨w.heap.size + 1 + 1, 6, none⟩ (.int .i64 r.x.l)).setCell ⟨w.heap.size + 1 + 1, 8, none⟩ (.int .i64 r.x.n)).setCell ⟨w.heap.size + 1 + 1, 10, none⟩ (.string r.nm)).setCell ⟨w.heap.size + 1 + 1, 7, none⟩ (.int .i64 r.x.c)).setCell ⟨w.heap.size + 1 + 1, 9, none⟩ (.int .i64 r.x.i)) = W ∧ Box W (w.heap.size + 1) zeroNums ⟨#[]⟩ (.slice none 0 0) ∧ Box W (w.heap.size + 2) ⟨3, r.x.k, r.x.s, r.x.p, r.x.t, r.x.a, r.x.l, r.x.c, r.x.n, r.x.i⟩ r.nm (.slice af r.l.length cf) ∧ Own (w.heap.size + 3) W (.slice af r.l.length cf) r.l ∧ Below w.heap.size w W) := ⟨_, rfl, (Box.set (Box.set (Box.set (Box.set (Box.set (Box.set (Box.set hbz _ _ (show w.heap.size + 1 ≠ w.heap.size + 1 + 1 by omega)) _ _ (show w.heap.size + 1 ≠ w.heap.size + 1 + 1 by omega)) _ _ (show w.heap.size + 1 ≠ w.heap.size + 1 + 1 by omega)) _ _ (show w.heap.size + 1 ≠ w.heap.size + 1 + 1 by omega)) _ _ (show w.heap.size + 1 ≠ w.heap.size + 1 + 1 by omega)) _ _ (show w.heap.size + 1 ≠ w.heap.size + 1 + 1 by omega)) _ _ (show w.heap.size + 1 ≠ w.heap.size + 1 + 1 by omega)), box_to3 hbq _ _ _ _ _ _ _, (Own.set (Own.set (Own.set (Own.set (Own.set (Own.set (Own.set HOW.out.1 _ _ (show w.heap.size + 1 + 1 < w.heap.size + 3 by omega)) _ _ (show w.heap.size + 1 + 1 < w.heap.size + 3 by omega)) _ _ (show w.heap.size + 1 + 1 < w.heap.size + 3 by omega)) _ _ (show w.heap.size + 1 + 1 < w.heap.size + 3 by omega)) _ _ (show w.heap.size + 1 + 1 < w.heap.size + 3 by omega)) _ _ (show w.heap.size + 1 + 1 < w.heap.size + 3 by omega)) _ _ (show w.heap.size + 1 + 1 < w.heap.size + 3 by omega)), (Below.setCell (Below.setCell (Below.setCell (Below.setCell (Below.setCell (Below.setCell (Below.setCell HOW.out.2 (show w.heap.size ≤ w.heap.size + 1 + 1 by omega) _) (show w.heap.size ≤ w.heap.size + 1 + 1 by omega) _) (show w.heap.size ≤ w.heap.size + 1 + 1 by omega) _) (show w.heap.size ≤ w.heap.size + 1 + 1 by omega) _) (show w.heap.size ≤ w.heap.size + 1 + 1 by omega) _) (show w.heap.size ≤ w.heap.size + 1 + 1 by omega) _) (show w.heap.size ≤ w.heap.size + 1 + 1 by omega) _)⟩
      obtain ⟨c0, c1, c2, c3, c4, c5, c6, c7, c8, c9, c10, c11⟩ := hbr.cells
      obtain ⟨q0, q1, q2, q3, q4, q5, q6, q7, q8, q9, q10, q11⟩ := hbq.cells
      have g0 := hbq.free' 0
      have g1 := hbq.free' 1
      have g2 := hbq.free' 2
      have g3 := hbq.free' 3
      have g4 := hbq.free' 4
      have g5 := hbq.free' 5
      have g6 := hbq.free' 6
      have g7 := hbq.free' 7
      have g8 := hbq.free' 8
      have g9 := hbq.free' 9
      have g10 := hbq.free' 10
      have g11 := hbq.free' 11
      clear hbr hbz hbq how hbel HCE HOW
      go_upto_region 19 with fail
      obtain ⟨W, hW, hz, hq, ho, hB⟩ := HWX.out
      rw [hW]
      clear HWX hW c0 q0 g0 c1 q1 g1 c2 q2 g2 c3 q3 g3 c4 q4 g4 c5 q5 g5 c6 q6 g6 c7 q7 g7 c8 q8 g8 c9 q9 g9 c10 q10 g10 c11 q11 g11
      obtain ⟨z0, z1, z2, z3, z4, z5, z6, z7, z8, z9, z10, z11⟩ := hz.cells
      have f0 := hz.free' 0
      have f1 := hz.free' 1
      have f2 := hz.free' 2
      have f3 := hz.free' 3
      have f4 := hz.free' 4
      have f5 := hz.free' 5
      have f6 := hz.free' 6
      have f7 := hz.free' 7
      have f8 := hz.free' 8
      have f9 := hz.free' 9
      have f10 := hz.free' 10
      have f11 := hz.free' 11
      obtain ⟨q0, q1, q2, q3, q4, q5, q6, q7, q8, q9, q10, q11⟩ := hq.cells
      have g0 := hq.free' 0
      have g1 := hq.free' 1
      have g2 := hq.free' 2
      have g3 := hq.free' 3
      have g4 := hq.free' 4
      have g5 := hq.free' 5
      have g6 := hq.free' 6
      have g7 := hq.free' 7
      have g8 := hq.free' 8
      have g9 := hq.free' 9
      have g10 := hq.free' 10
      have g11 := hq.free' 11
      have HTH : Hid (W.there (w.heap.size + 1) 0 12) := hz.there
      have HF : Hid (Below w.heap.size w (W.setCells (w.heap.size + 1) 0 [.int .i64 3, .int .i64 r.x.k, .int .i64 r.x.s, .int .i64 r.x.p, .int .i64 r.x.t, .int .i64 r.x.a, .int .i64 r.x.l, .int .i64 r.x.c, .int .i64 r.x.n, .int .i64 r.x.i, .string r.nm, .slice af r.l.length cf]) ∧ Bs (W.setCells (w.heap.size + 1) 0 [.int .i64 3, .int .i64 r.x.k, .int .i64 r.x.s, .int .i64 r.x.p, .int .i64 r.x.t, .int .i64 r.x.a, .int .i64 r.x.l, .int .i64 r.x.c, .int .i64 r.x.n, .int .i64 r.x.i, .string r.nm, .slice af r.l.length cf]) (.slice af r.l.length cf) r.l ∧ ∀ g, g < w.heap.size → Off g (.slice af r.l.length cf) r.l) := ⟨below_cells (by omega) _ 0 _ hB, (Own.cells ho _ _ _ (by omega)).bs, fun g hg => off_own ho g (by omega)⟩
      clear hq hz hB ho
      go_wp2
      have HRG := World.rangeAt_setCells_same W (w.heap.size + 1) 0 [.int .i64 3, .int .i64 r.x.k, .int .i64 r.x.s, .int .i64 r.x.p, .int .i64 r.x.t, .int .i64 r.x.a, .int .i64 r.x.l, .int .i64 r.x.c, .int .i64 r.x.n, .int .i64 r.x.i, .string r.nm, .slice af r.l.length cf] HTH.out
      refine bodyPost_ret (results_cell_mid (p := 4) (ty := 38) rfl _ _ (w.heap.size + 1) [.int .i64 3, .int .i64 r.x.k, .int .i64 r.x.s, .int .i64 r.x.p, .int .i64 r.x.t, .int .i64 r.x.a, .int .i64 r.x.l, .int .i64 r.x.c, .int .i64 r.x.n, .int .i64 r.x.i, .string r.nm, .slice af r.l.length cf] _ rfl HRG Tryd.underlying38 rfl HIR.out) rfl ?_
      exact ⟨_, _, rfl, HF.out.2.1, HF.out.2.2, HF.out.1⟩
theorem guess_any (to : Int) (r : Rec) (d : Value) (w : World) (h : Bs w d r.l) (hs : r.small) (h1 : 1 ≤ to) (h3 : to ≤ 3) (hv : to ≤ r.x.v) :
    Calls Tryd.prog 42 #[rv r.x r.nm d, .int .i64 to] w fun e w' => NewR w w' (guessP to r) e := by
  obtain rfl | rfl | rfl : to = 1 ∨ to = 2 ∨ to = 3 := by omega
  · by_cases hv1 : r.x.v = 1
    · exact guess_A r d w h hs hv1
    · by_cases hk : r.x.k = 1
      · exact guess_X r d w h hs (by omega) hk
      · exact guess_B r d w h hs (by omega) hk
  · exact guess_C r d w h hs (by omega)
  · exact guess_D r d w h hs (by omega)
end Go.Proofs.YtjhgjlnckidjkaaDoor
