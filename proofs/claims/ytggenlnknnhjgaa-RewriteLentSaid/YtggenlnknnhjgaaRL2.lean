/-
  Bytes: the reference's Part and Alike, bytes.Equal, bytes.Clone.
-/
import Derived.Test.YtggenlnknnhjgaaRL1
import Derived.Laws.IdiomStrings
import Derived.Laws.BytesString
import Derived.Deep.QuietTactic
import Derived.BigQuiet
import Derived.WalkSmall
namespace Go.Proofs.Ytggenlnknnhjgaa
open Go Go.RowKit
open Wb

theorem up {w w1 : World} (h : Below w.heap.size w w1) (o : Obj) : Below w.heap.size w (w1.alloc o) := h.alloc h.size o
theorem andThen {w w1 w2 : World} (h : Below w.heap.size w w1) (k : Below w1.heap.size w1 w2) : Below w.heap.size w w2 := h.trans (k.mono h.size)
theorem up0 (w : World) (o : Obj) : Below w.heap.size w (w.alloc o) := up (Below.refl _ _) o
theorem blwDrew {B : Nat} {a w : World} (h : Below B a w) (n : Nat) : Below B a (w.drewN n) := h.trans ⟨rfl, rfl, rfl, Nat.le_refl _, fun _ _ => rfl⟩
theorem info5 : (Try.prog.info? 5).map (fun i => (i.zero, i.size, i.bytes)) = some (some (.int .u8 0), 1, 1) := by kernel_rfl
set_option maxHeartbeats 400000 in
theorem part_any (v : Value) (l : List Nat) (w : World) (h : Bs w v l) (hlen : l.length ≤ 140737488355000) :
    Calls Try.prog 20 #[v, .int .i64 0, .int .i64 (l.length : Int)] w fun e w' => ∃ v', e = .returned v' ∧ Own w.heap.size w' v' l ∧ Below w.heap.size w w' := by
  have hg := h.good
  obtain ⟨ao, cap, rfl, hl, hm, hn, hc⟩ := h.shape
  have hin := info5
  clear hm
  go_enter Try.func20, Try.ntmps20
  go_wp2
  go_loopw [7, 8] (fun v i wr => ∃ k : Nat, k ≤ l.length ∧ i = .int .i64 k ∧ Own w.heap.size wr v (l.take k) ∧ Below w.heap.size w wr) (fun _ i _ => l.length - (intOf i).toNat)
  case atStart => exact ⟨0, Nat.zero_le _, rfl, Own.nil _ _, Below.refl _ _⟩
  case round =>
    obtain ⟨k, hk, rfl, hown, hbel⟩ := hrel
    by_cases hlt : k < l.length
    · obtain ⟨b, off, rfl, hcell⟩ := hc (List.ne_nil_of_length_pos (by omega))
      have hck := (hbel.cell (p := ⟨b, off + k, none⟩) (World.block_lt_of_cell? _ _ (hcell k hlt))).trans (hcell k hlt)
      have h256 := ok_get hg k hlt
      have HS : Hid (l.take (k + 1) = l.take k ++ [l[k]]) := List.take_succ_eq_append_getElem hlt
      have hL : (l.take k).length ≤ k := by simp; omega
      have HO : Hid (∀ o, Own w.heap.size (wr.alloc o) u7 (l.take k)) := fun o => hown.alloc o
      have hsz := hbel.size
      clear hc hcell hn
      generalize l[k] = c at *
      generalize l.take k = m at *
      go_wp2_with (at_builtin; refine wpList_append _ rfl (.tmp 15) (.tmp 20) 23 rfl w.heap.size hin Try.underlying23 _ m rfl (HO.out _) _ [c] rfl (Bs.one _ c h256 _ rfl) (by simp; omega) (by simp; omega) ?_)
      intro v' w' ho' hb' _
      have R : Own w.heap.size w' v' (l.take (k + 1)) ∧ Below w.heap.size w w' := ⟨by rw [HS.out]; exact ho', (hbel.alloc hsz _).trans hb'⟩
      clear ho' hb' hown HO HS
      go_wp2
      go_roundw
      case rel => exact ⟨k + 1, by omega, by go_num, R.1, R.2⟩
      case measure => simp [intOf]; omega
    · have HE : Hid (l.take k = l) := List.take_of_length_le (by omega)
      go_wp2
      go_ret
      exact ⟨_, rfl, by rw [← HE.out]; exact hown, hbel⟩
def bstr (l : List Nat) : ByteArray := ⟨(l.map UInt8.ofNat).toArray⟩
theorem conv_bs {w : World} {v : Value} {l : List Nat} (h : Bs w v l) : (convert 23 9 v).run Try.prog w = .ok (.string (bstr l)) w := by
  rcases h.cases with ⟨rfl, ao, cap, rfl, _⟩ | ⟨hl, b, off, cap, rfl, _, _, hc⟩
  · rw [run_convert_bytes_string w 23 9 5 _ 0 cap Try.underlying23 Try.underlying5 Try.underlying9]
    cases ao <;> simp [Conv.bytesToString, loadCells]
    all_goals rfl
  · have := run_convert_bytes_back w 23 9 5 ⟨b, off, none⟩ cap (l.map UInt8.ofNat) Try.underlying23 Try.underlying5 Try.underlying9 (fun j hj => by
      have hj' : j < l.length := by simpa using hj
      rw [Addr.add_lit, hc j hj']
      have h256 := ok_get h.good j hj'
      simp [Nat.mod_eq_of_lt h256])
    rw [List.length_map] at this
    exact this
theorem bstr_inj {a b : List Nat} (ha : ok a) (hb : ok b) : ((bstr a).toList == (bstr b).toList) = decide (a = b) := by
  have e : ∀ l, (bstr l).toList = l.map UInt8.ofNat := fun l => by unfold bstr; rw [ByteArray.toList_eq]
  rw [e, e]
  by_cases h : a = b
  · subst h; simp
  · rw [decide_eq_false h, beq_eq_false_iff_ne]
    intro hh
    apply h
    have h1 := congrArg (List.map UInt8.toNat) hh
    simp only [List.map_map] at h1
    have key : ∀ l : List Nat, ok l → l.map (UInt8.toNat ∘ UInt8.ofNat) = l := fun l hl => by
      conv => rhs; rw [← List.map_id l]
      apply List.map_congr_left
      intro x hx
      exact UInt8.toNat_ofNat_of_lt' (show x < 256 from hl x hx)
    rwa [key a ha, key b hb] at h1
theorem bclone_any (v : Value) (l : List Nat) (w : World) (h : Bs w v l) (hlen : l.length ≤ 140737488355000) :
    Calls Try.prog 23 #[v] w fun e w' => ∃ v', e = .returned v' ∧ Own w.heap.size w' v' l ∧ Below w.heap.size w w' := by
  have hin := info5
  obtain ⟨ao, cap, rfl, hl, hm, hn, hc⟩ := h.shape
  cases ao with
  | none =>
    have h0 : l = [] := List.eq_nil_of_length_eq_zero (by have := hn rfl; omega)
    subst h0
    clear h hc hl hm hn hlen
    have he : ∀ w' : World, (binOp .eql 23 (.slice none 0 cap) (.slice none 0 0)).run Try.prog w' = .ok (.bool true) w' := fun _ => rfl
    go_enter Try.func23, Try.ntmps23
    go_wp2
    go_ret
    exact ⟨_, rfl, Own.nil _ _, Below.refl _ _⟩
  | some ad =>
    have HB : Hid (∀ o, Bs (w.alloc o) (.slice (some ad) l.length cap) l) := fun o => h.alloc o
    have HO : Hid (Own w.heap.size (w.alloc (.cells #[] 5)) (.slice (some ⟨w.heap.size, 0, none⟩) 0 0) []) := Own.lit w [] ok_nil (Nat.le_refl _) (Nat.zero_le _) #[] rfl
    clear h hc hl hm hn
    have he : ∀ w' : World, (binOp .eql 23 (.slice (some ad) l.length cap) (.slice none 0 0)).run Try.prog w' = .ok (.bool false) w' := fun _ => rfl
    go_enter Try.func23, Try.ntmps23
    go_wp2_with (at_builtin; refine wpList_append _ rfl (.tmp 5) (.tmp 6) 23 rfl w.heap.size hin Try.underlying23 _ [] rfl HO.out _ l rfl (HB.out _) (by simp; omega) (by simp) ?_)
    intro v' w' ho' hb' _
    have R : Hid (Own w.heap.size w' v' l ∧ Below w.heap.size w w') := ⟨ho', ((Below.refl _ w).alloc (Nat.le_refl _) _).trans hb'⟩
    clear ho' hb'
    go_wp2
    go_ret
    exact ⟨_, rfl, R.out.1, R.out.2⟩
/-- the cells of a record -/
def rcs (x : Nums) (nm : ByteArray) (d : Value) : List Value := [.int .i64 x.v, .int .i64 x.k, .int .i64 x.s, .int .i64 x.p, .int .i64 x.t, .int .i64 x.a, .int .i64 x.l, .int .i64 x.c, .int .i64 x.n, .int .i64 x.i, .string nm, d]
theorem infoRec : (Try.prog.info? 25).map (·.size) = some 12 := by kernel_rfl
end Go.Proofs.Ytggenlnknnhjgaa
