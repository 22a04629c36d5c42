/-
  WireOwn: light, Frame of one part, ReadFrames with its rows apart.
-/
import Derived.Test.YtppgijgmhjfdfaaDoorWo1
import Derived.Test.YtppgijgmhjfdfaaDoorLight
import Derived.Test.YtppgijgmhjfdfaaDoorPlays1
import Derived.Deep.RegionHeld
namespace Go.Proofs.YtppgijgmhjfdfaaDoor
open Go Go.RowKit
open Wb

/-- what light answers -/
def LtPost (w : World) (ls : List (List Nat)) (e : Ending) (w' : World) : Prop := ∃ v' k, e = .returned v' ∧ k ≤ 5000 ∧ (ls.take k).flatten.length ≤ 4194304 ∧ (ls.take k).length ≤ 5000 ∧ Ps w v' (ls.take k) ∧ w' = w
set_option maxHeartbeats 1000000 in
theorem lightW_any (v : Value) (ls : List (List Nat)) (w : World) (h : Ps w v ls) (hb : ∀ j (h : j < ls.length), ls[j].length ≤ 140737488355328) (hcap : ∀ ao n cap, v = .slice ao n cap → n ≤ cap) :
    Calls Tryd.prog 5 #[v] w fun e w' => LtPost w ls e w' := by
  have hob := h
  obtain ⟨ao, cap, rfl, hmx, hc⟩ := h.shape
  unfold maxLen at hmx
  have hlc := hcap _ _ _ rfl
  clear hcap
  have HT : Hid (∀ n, n ≤ ls.length → n ≤ 5000 → (ls.take n).flatten.length ≤ 4194304 → LtPost w ls (.returned (.slice ao n cap)) w) := fun n hn h5 hf => ⟨_, n, rfl, h5, hf, Nat.le_trans (List.length_take_le _ _) h5, ps_take hob n hn ao cap rfl, rfl⟩
  have HBD : Hid (∀ j (h : j < ls.length), ls[j].length ≤ 140737488355328) := hb
  clear hob h hb
  go_enter Tryd.func5, Tryd.ntmps5
  go_wp2
  go_loop [3, 4] (fun n i => ∃ k m : Nat, k ≤ ls.length ∧ k ≤ 5000 ∧ i = .int .i64 k ∧ n = .int .i64 (m : Int) ∧ m = (ls.take k).flatten.length ∧ m ≤ 4194304) (fun _ i => ls.length - (intOf i).toNat)
  case atStart => exact ⟨0, 0, Nat.zero_le _, by omega, rfl, rfl, by simp, by omega⟩
  case round =>
    obtain ⟨k, m, hk, hk5, rfl, rfl, hm, hm1⟩ := hrel
    have HM : Hid (m = (ls.take k).flatten.length) := hm
    have HR : Hid (LtPost w ls (.returned (.slice ao k cap)) w) := HT.out k hk hk5 (by rw [← hm]; exact hm1)
    clear hm
    by_cases hlt : k < ls.length
    · obtain ⟨b, off, rfl, hcell⟩ := hc (List.ne_nil_of_length_pos (by omega))
      obtain ⟨vk, hck, hbk⟩ := hcell k hlt
      obtain ⟨aok, capk, rfl, hlk, hmk, hx1, hx2⟩ := hbk.shape
      have HN : Hid ((ls.take (k + 1)).flatten.length = m + ls[k].length) := by
        show _ = _
        rw [HM.out, List.take_succ_eq_append_getElem hlt, List.flatten_append]
        simp
      have hml := HBD.out k hlt
      clear hx1 hx2 hc hcell hbk HBD
      generalize ls[k].length = q at *
      by_cases h5 : k = 5000
      · subst h5
        clear HM HN HT
        go_wp2
        go_ret
        exact HR.out
      · have d5 : decide ((5000 : Int) ≤ (k : Int)) = false := decide_eq_false (by omega)
        by_cases h6 : 4194304 < m + q
        · have d6 : decide ((4194304 : Int) < (m : Int) + (q : Int)) = true := decide_eq_true (by omega)
          clear HM HN HT
          go_wp2
          go_ret
          exact HR.out
        · have d6 : decide ((4194304 : Int) < (m : Int) + (q : Int)) = false := decide_eq_false (by omega)
          clear HR HT
          go_wp2
          go_round
          case rel => exact ⟨k + 1, m + q, by omega, by omega, by go_num, by go_num, HN.out.symm, by omega⟩
          case measure => simp [intOf]; omega
    · obtain rfl : k = ls.length := by omega
      clear HT hc HBD
      go_wp2
      go_ret
      exact HR.out
/-- what Frame makes of one part -/
def frU (x : List Nat) : List Nat := if 0 < x.length ∧ x.length ≤ 1048576 then fr x else []
theorem frU_len (x : List Nat) : (frU x).length ≤ 1048584 ∧ (frU x).length ≤ x.length + 8 := by
  unfold frU
  split
  · rename_i h
    have h1 := fr_length x
    have h2 := Wn.uint_len3 x.length h.2
    omega
  · exact ⟨by simp, by simp⟩
theorem frameU_any (pv : Value) (x : List Nat) (w : World) (hT : Tab w) (hp : Ps w pv [x]) :
    Calls Tryd.prog 6 #[pv] w fun e w' => ∃ ao, ∃ n cap : Nat, ∃ er, e = .returned (.tuple #[.slice ao n cap, .int .i64 er]) ∧ n = (frU x).length ∧ Own w.heap.size w' (.slice ao n cap) (frU x) ∧ Below w.heap.size w w' := by
  have e1 : [x].flatten = x := by simp
  by_cases h : 0 < x.length ∧ x.length ≤ 1048576
  · have hf : frU x = fr x := by unfold frU; rw [if_pos h]
    rw [hf]
    have h0 := frame_ok pv [x] w hT hp (by rw [e1]; exact h.2) (by rw [e1]; exact h.1)
    rw [e1] at h0
    refine h0.mono fun e w' ⟨v', he, ho, hb⟩ => ?_
    obtain ⟨ao, cap, e2, _⟩ := ho.bs.shape
    exact ⟨ao, _, cap, 0, by rw [he, e2], rfl, by rw [e2] at ho; exact ho, hb⟩
  · have hf : frU x = [] := by unfold frU; rw [if_neg h]
    rw [hf]
    by_cases hl : 1048576 < x.length
    · exact (frame_bad pv [x] w hp 13 (.inl ⟨by rw [e1]; exact hl, rfl⟩)).mono fun e w' ⟨he, hw⟩ => ⟨none, 0, 0, 13, he, rfl, hw ▸ Own.nil _ _, hw ▸ Below.refl _ _⟩
    · exact (frame_bad pv [x] w hp 14 (.inr ⟨by rw [e1]; omega, rfl⟩)).mono fun e w' ⟨he, hw⟩ => ⟨none, 0, 0, 14, he, rfl, hw ▸ Own.nil _ _, hw ▸ Below.refl _ _⟩
set_option maxHeartbeats 1000000 in
theorem readFramesA_any (v : Value) (l : List Nat) (p : Int) (f : Nat) (w : World) (hT : Tab w) (h : Bs w v l) (hlen : l.length ≤ 140737488355328) (hp0 : 0 ≤ p) (hp1 : p ≤ (l.length : Int)) (hf : (l.length : Int) + 1 - p ≤ (f : Int)) (hfl : l.length ≤ 4000000000) :
    Calls Tryd.prog 15 #[v, .int .i64 p] w fun e w' => ∃ v' ps, e = .returned (.tuple #[v', .int .i64 (rfs f l p).2]) ∧ Ans w.heap.size w' v' ps ∧ ps.map Prod.snd = (rfs f l p).1 ∧ Below w.heap.size w w' := by
  have hin := info22
  have hob := h
  obtain ⟨ao, cap, rfl, hl, hmx, _, _⟩ := h.shape
  obtain ⟨RB, hRB⟩ : ∃ RB, RB = (rfs f l p).1 := ⟨_, rfl⟩
  obtain ⟨RE, hRE⟩ : ∃ RE, RE = (rfs f l p).2 := ⟨_, rfl⟩
  rw [← hRB, ← hRE]
  have HS : Hid (RB = (rfs f l p).1 ∧ RE = (rfs f l p).2) := ⟨hRB, hRE⟩
  clear hRB hRE
  go_enter Tryd.func15, Tryd.ntmps15
  go_wp2_with fail
  refine (outside_no _ l _ _ hob hp0 hp1).mono ?_
  rintro e w1 ⟨rfl, rfl⟩
  go_wp2
  go_loopw [1, 6] (fun x o wr => ∃ (q : Int) (k : Nat) (ps : List (Value × List Nat)), x = .int .i64 q ∧ 0 ≤ q ∧ q ≤ (l.length : Int) ∧ (l.length : Int) + 1 - q ≤ (k : Int) ∧ (ps.length : Int) ≤ q ∧ ps.map Prod.snd ++ (rfs k l q).1 = RB ∧ (rfs k l q).2 = RE ∧ Ans w.heap.size wr o ps ∧ Below w.heap.size w wr) (fun x _ _ => l.length + 1 - (intOf x).toNat)
  case atStart => exact ⟨p, f, [], rfl, hp0, hp1, hf, by simpa using hp0, by simpa using HS.out.1.symm, HS.out.2.symm, Ans.nil _ _, Below.refl _ _⟩
  case round =>
    obtain ⟨q, k, ps, rfl, hq0, hq1, hk, hdl, hd1, hd2, hown, hbel⟩ := hrel
    clear HS
    obtain ⟨k', rfl⟩ : ∃ k', k = k' + 1 := ⟨k - 1, by omega⟩
    have hr := hob.kept hbel
    have hTr := hT.kept hbel
    have hsz := hbel.size
    by_cases hok : (rf l q).2.2 = 0
    · obtain ⟨hp0', hp1', hp2'⟩ := rf_pos l q hok
      have HF : Hid (ps.map Prod.snd ++ ((rf l q).1 :: (rfs k' l (rf l q).2.1).1) = RB ∧ (rfs k' l (rf l q).2.1).2 = RE) := by
        rw [rfs, if_pos hok] at hd1 hd2
        exact ⟨hd1, hd2⟩
      have hrf : rf l q = ((rf l q).1, (rf l q).2.1, 0) := Prod.ext rfl (Prod.ext rfl hok)
      have HRF : Hid (rf l q = ((rf l q).1, (rf l q).2.1, 0)) := hrf
      clear hd1 hd2 hok hrf
      generalize (rf l q).1 = body at *
      generalize (rf l q).2.1 = q2 at *
      have HLT : Hid ((∀ p ∈ ps, ∀ g, p.1.ownBlock = some g → g < wr.heap.size) ∧ ∀ g, u6.ownBlock = some g → g < wr.heap.size) := hown.lt
      go_wp2_with fail
      refine (readFrame_any _ l q _ hTr hr hlen).mono ?_
      rw [HRF.out]
      rintro e w2 ⟨v2, rfl, ho2, b2⟩
      obtain ⟨ao2, cap2, rfl, _⟩ := ho2.bs.shape
      have hvs : ps.length ≤ 5000000000 := by omega
      have HO : Hid (∀ o, Ans w.heap.size (w2.alloc o) u6 ps ∧ New wr.heap.size (w2.alloc o) [(.slice ao2 body.length cap2, body)]) := fun o => ⟨(hown.kept b2).kept (up0 _ _), (New.one ho2).kept (up0 _ _)⟩
      have hb2 := andThen hbel b2
      have HC : Hid ((w2.alloc (.cells #[.slice ao2 body.length cap2] 25)).rangeAt w2.heap.size 0 [.slice ao2 body.length cap2]) := by
        have h : (w2.alloc (.cells #[.slice ao2 body.length cap2] 25)).heap[w2.heap.size]? = some (.cells #[.slice ao2 body.length cap2] 25) := heap_new _ _
        exact World.rangeAt_of_block h 0 1
      have hsz2 := hb2.size
      clear ho2 b2 hr hTr hown
      go_wp2_with (at_builtin; refine wpList_append_new _ rfl (.tmp 24) (.tmp 26) 23 rfl w.heap.size wr.heap.size hin Tryd.underlying23 _ ps [(.slice ao2 body.length cap2, body)] rfl (HO.out _).1 (HO.out _).2 hsz HLT.out.1 HLT.out.2 w2.heap.size rfl HC.out (by simp; omega) (by simp; omega) ?_)
      intro v3 w3 hr3 hg3
      have R : Hid (Ans w.heap.size w3 v3 (ps ++ [(.slice ao2 body.length cap2, body)]) ∧ Below w.heap.size w w3) := ⟨hr3, (up hb2 _).trans (grown_below (HO.out _).1.row hg3 (by simp; omega))⟩
      clear hr3 hg3 HO HC hb2 hbel HLT
      go_wp2
      go_roundw
      case rel => exact ⟨q2, k', ps ++ [(.slice ao2 body.length cap2, body)], rfl, by omega, by omega, by omega, by simp; omega, by rw [List.map_append, List.append_assoc]; exact HF.out.1, HF.out.2, R.out.1, R.out.2⟩
      case measure => simp [intOf]; omega
    · have HF : Hid (ps.map Prod.snd = RB ∧ q = RE) := by
        rw [rfs, if_neg hok] at hd1 hd2
        exact ⟨by simpa using hd1, hd2⟩
      have hrf := rf_bad l q hok
      have hle := rf_le l q
      generalize (rf l q).2.2 = er at *
      have HRF : Hid (rf l q = ([], 0, er)) := hrf
      have d1 : ((er : Int) != 0) = true := by rw [bne_iff_ne]; omega
      clear hd1 hd2 hrf hok
      go_wp2_with fail
      refine (readFrame_any _ l q _ hTr hr hlen).mono ?_
      rw [HRF.out]
      rintro e w2 ⟨v2, rfl, ho2, b2⟩
      obtain ⟨ao2, cap2, rfl, _⟩ := ho2.bs.shape
      have R : Hid (Ans w.heap.size w2 u6 ps ∧ ps.map Prod.snd = RB ∧ Below w.heap.size w w2) := ⟨hown.kept b2, HF.out.1, andThen hbel b2⟩
      clear ho2 b2 hr hTr hown hbel
      go_wp2
      go_ret2
      exact ⟨_, ps, by rw [← HF.out.2]; rfl, R.out.1, R.out.2.1, R.out.2.2⟩
end Go.Proofs.YtppgijgmhjfdfaaDoor
