/-
  One buffer: filledBy, halves.
-/
import Derived.Test.YtdoclmkldfemhaaDoorStr8
import Derived.Test.YtdoclmkldfemhaaDoorRRfs
import Derived.Test.YtdoclmkldfemhaaDoorUpTo2
import Derived.Test.YtdoclmkldfemhaaDoorPlaysB
namespace Go.Proofs.YtdoclmkldfemhaaDoor
open Go Go.RowKit Go.ChangeShapes Go.WideShapes
open Wb

/-- a buffer in block g that holds these bytes and no more room -/
structure Buf (w : World) (g : Nat) (l : List Nat) : Prop where
  heap : w.heap[g]? = some (.cells (bv l).toArray 5 (0, 0))
  good : ok l
theorem Buf.cell {w : World} {g : Nat} {l : List Nat} (h : Buf w g l) (j : Nat) (hj : j < l.length) : w.cell? ⟨g, j, none⟩ = some (.int .u8 (l[j] : Int)) := by
  unfold World.cell?
  rw [h.heap]
  show (bv l).toArray[j]? = _
  rw [List.getElem?_toArray, bv_get l j hj]
theorem Buf.bs {w : World} {g : Nat} {l : List Nat} (h : Buf w g l) (hl : l.length ≤ maxLen) : Bs w (.slice (some ⟨g, 0, none⟩) l.length l.length) l :=
  ⟨⟨_, _, rfl, Nat.le_refl _, hl, fun e => (by cases e), fun _ => ⟨g, 0, rfl, fun j hj => by rw [Nat.zero_add]; exact h.cell j hj⟩⟩, h.good⟩
theorem Buf.lt {w : World} {g : Nat} {l : List Nat} (h : Buf w g l) : g < w.heap.size := (Array.getElem?_eq_some_iff.1 h.heap).1
theorem Buf.kept {w w' : World} {g : Nat} {l : List Nat} (h : Buf w g l) (hb : Below w.heap.size w w') : Buf w' g l := ⟨(hb.block g h.lt).trans h.heap, h.good⟩
theorem Buf.frozen {w : World} {g : Nat} {l : List Nat} (h : Buf w g l) (j : Nat) : w.frozen? ⟨g, j, none⟩ = false := by
  unfold World.frozen?
  rw [h.heap]
  simp
theorem Buf.set {w : World} {g : Nat} {l : List Nat} (h : Buf w g l) (j x : Nat) (hx : x < 256) : Buf (w.setCell ⟨g, j, none⟩ (.int .u8 (x : Int))) g (l.set j x) := by
  refine ⟨?_, fun y hy => ?_⟩
  · rw [Go.heap_setCell_same w g j _ _ _ h.heap]
    congr 2
    unfold bv
    simp [List.map_set]
  · rcases List.mem_or_eq_of_mem_set hy with h1 | h1
    · exact h.good y h1
    · omega
theorem grown_set {w wr : World} {g j : Nat} {x : Value} (h : w.grownBy wr (some g)) : w.grownBy (wr.setCell ⟨g, j, none⟩ x) (some g) := by
  have hb := (Below.refl 0 wr).setCell (p := ⟨g, j, none⟩) (Nat.zero_le _) x
  refine ⟨hb.os.trans h.os, hb.tape.trans h.tape, hb.output.trans h.output, Nat.le_trans h.size hb.size, fun k hk hne => ?_⟩
  rw [Below.heap_setCell wr ⟨g, j, none⟩ x k (fun e => hne (by rw [e])), h.block k hk hne]

/-- the buffer's bytes behind filledBy -/
def fillL (n : Nat) (b : List Nat) : List Nat := (b ++ List.replicate n 0).take n
theorem fillL_len (n : Nat) (b : List Nat) : (fillL n b).length = n := by
  unfold fillL
  rw [List.length_take, List.length_append, List.length_replicate]
  omega
theorem fillL_get (n : Nat) (b : List Nat) (k : Nat) (hk : k < n) : (fillL n b)[k]'(by rw [fillL_len]; exact hk) = if h : k < b.length then b[k] else 0 := by
  unfold fillL
  rw [List.getElem_take]
  by_cases h : k < b.length
  · rw [dif_pos h, List.getElem_append_left h]
  · rw [dif_neg h, List.getElem_append_right (by omega), List.getElem_replicate]
theorem upd_step (F l : List Nat) (k : Nat) (hF : F.length = l.length) (hk : k < l.length) : (F.take k ++ l.drop k).set k (F[k]'(by omega)) = F.take (k + 1) ++ l.drop (k + 1) := by
  have h1 : (F.take k).length = k := by rw [List.length_take]; omega
  rw [List.set_append_right _ _ (by omega), h1, Nat.sub_self, List.drop_eq_getElem_cons hk, List.set_cons_zero, List.take_succ_eq_append_getElem (by omega), List.append_assoc]
  rfl

set_option maxHeartbeats 1000000 in
theorem filledBy_any (g : Nat) (l b : List Nat) (v : Value) (w : World) (hbuf : Buf w g l) (hl : l.length ≤ 400) (hb : Bs w v b) (hne : b ≠ [] → v.ownBlock ≠ some g) :
    Calls Tryd.prog 9 #[.slice (some ⟨g, 0, none⟩) l.length l.length, v] w fun e w' => e = .returned (.tuple #[]) ∧ Buf w' g (fillL l.length b) ∧ w.grownBy w' (some g) := by
  obtain ⟨ao, cap, rfl, hlb, hmx, _, hc⟩ := hb.shape
  unfold maxLen at hmx
  have HG : Hid (ok b) := hb.good
  obtain ⟨F, hF⟩ : ∃ F, fillL l.length b = F := ⟨_, rfl⟩
  have HFl : Hid (F.length = l.length) := by show _ = _; rw [← hF, fillL_len]
  have HFg : Hid (∀ k (hk : k < l.length) (hk2 : k < F.length), F[k] = if h : k < b.length then b[k] else 0) := fun k hk hk2 => by subst hF; exact fillL_get l.length b k hk
  have HN : Hid (∀ gb off, ao = some ⟨gb, off, none⟩ → b ≠ [] → gb ≠ g) := fun gb off e hb' h2 => hne hb' (by rw [e, ← h2]; rfl)
  have HCC : Hid (b ≠ [] → ∃ b_1 off, ao = some ⟨b_1, off, none⟩ ∧ ∀ j (h : j < b.length), w.cell? ⟨b_1, off + j, none⟩ = some (.int .u8 (b[j] : Int))) := hc
  rw [hF]
  clear hb hc hne hF
  have HB0 : Hid (Buf w g (F.take 0 ++ l.drop 0)) := by show Buf w g (F.take 0 ++ l.drop 0); simpa using hbuf
  clear hbuf
  go_enter Tryd.func9, Tryd.ntmps9
  go_wp2
  go_loopw [4] (fun i wr => ∃ k : Nat, k ≤ l.length ∧ i = .int .i64 (k : Int) ∧ Buf wr g (F.take k ++ l.drop k) ∧ w.grownBy wr (some g)) (fun i _ => l.length - (intOf i).toNat)
  case atStart => exact ⟨0, Nat.zero_le _, rfl, HB0.out, World.grownBy.refl _ _⟩
  case round =>
    obtain ⟨k, hk, rfl, hbuf, hgr⟩ := hrel
    clear HB0
    have hul : (F.take k ++ l.drop k).length = l.length := by
      have := HFl.out
      rw [List.length_append, List.length_take, List.length_drop]
      omega
    by_cases hlt : k < l.length
    · have c0 := hbuf.cell k (by omega)
      have f0 := hbuf.frozen k
      have hb1 : Buf (wr.setCell ⟨g, k, none⟩ (.int .u8 0)) g ((F.take k ++ l.drop k).set k 0) := hbuf.set k 0 (by decide)
      have c1 : (wr.setCell ⟨g, k, none⟩ (.int .u8 0)).cell? ⟨g, k, none⟩ = some (.int .u8 0) := by
        have := hb1.cell k (by rw [List.length_set]; omega)
        rw [List.getElem_set_self] at this
        exact this
      have f1 := hb1.frozen k
      have hg1 : w.grownBy (wr.setCell ⟨g, k, none⟩ (.int .u8 0)) (some g) := grown_set hgr
      generalize (F.take k ++ l.drop k)[k]'(by omega) = y at *
      by_cases hkb : k < b.length
      · obtain ⟨gb, off, rfl, hcell⟩ := HCC.out (List.ne_nil_of_length_pos (by omega))
        have hgg := HN.out gb off rfl (List.ne_nil_of_length_pos (by omega))
        have q0 : (wr.setCell ⟨g, k, none⟩ (.int .u8 0)).cell? ⟨gb, off + k, none⟩ = some (.int .u8 (b[k] : Int)) := by
          have h1 := hcell k hkb
          rw [World.cell?_of_block (w := w) (a := ⟨gb, off + k, none⟩) (hg1.block gb (World.block_lt_of_cell? _ _ h1) (fun e => hgg (Option.some.inj e)))]
          exact h1
        have hx : b[k] < 256 := HG.out _ (List.getElem_mem hkb)
        have R : Hid (Buf ((wr.setCell ⟨g, k, none⟩ (.int .u8 0)).setCell ⟨g, k, none⟩ (.int .u8 (b[k] : Int))) g (F.take (k + 1) ++ l.drop (k + 1)) ∧ w.grownBy ((wr.setCell ⟨g, k, none⟩ (.int .u8 0)).setCell ⟨g, k, none⟩ (.int .u8 (b[k] : Int))) (some g)) := by
          refine ⟨?_, grown_set hg1⟩
          have h2 := hb1.set k b[k] hx
          rw [List.set_set] at h2
          have h3 := upd_step F l k HFl.out hlt
          rw [HFg.out k hlt (by rw [HFl.out]; exact hlt), dif_pos hkb] at h3
          rw [h3] at h2
          exact h2
        clear hbuf hgr hb1 hg1 HCC HN hul hcell
        generalize b[k] = x at *
        go_wp2
        go_roundw
        case rel => exact ⟨k + 1, by omega, by go_num, R.out.1, R.out.2⟩
        case measure => simp [intOf]; omega
      · have R : Hid (Buf (wr.setCell ⟨g, k, none⟩ (.int .u8 0)) g (F.take (k + 1) ++ l.drop (k + 1)) ∧ w.grownBy (wr.setCell ⟨g, k, none⟩ (.int .u8 0)) (some g)) := by
          refine ⟨?_, hg1⟩
          have h3 := upd_step F l k HFl.out hlt
          rw [HFg.out k hlt (by rw [HFl.out]; exact hlt), dif_neg hkb] at h3
          rw [h3] at hb1
          exact hb1
        clear hbuf hgr hb1 hg1 HCC HN hul
        go_wp2
        go_roundw
        case rel => exact ⟨k + 1, by omega, by go_num, R.out.1, R.out.2⟩
        case measure => simp [intOf]; omega
    · have R : Hid (Buf wr g F ∧ w.grownBy wr (some g)) := by
        refine ⟨?_, hgr⟩
        have e : k = l.length := by omega
        rw [e, List.drop_length, List.append_nil, List.take_of_length_le (by rw [HFl.out]; exact Nat.le_refl _)] at hbuf
        exact hbuf
      clear hbuf hgr HCC HN hul
      go_wp2
      go_end0
      exact ⟨rfl, R.out.1, R.out.2⟩
end Go.Proofs.YtdoclmkldfemhaaDoor
