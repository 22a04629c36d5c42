/-
  The reference's ReadFrame.
-/
import Derived.Test.YtppgijgmhjfdfaaDoorFrms
namespace Go.Proofs.YtppgijgmhjfdfaaDoor
open Go Go.RowKit Go.ChangeShapes Go.WideShapes
open Wb

set_option maxHeartbeats 2000000 in
theorem rrf_any (v : Value) (l : List Nat) (p : Int) (w : World) (h : Bs w v l) (hlen : l.length ≤ 140737488355328) :
    Calls Tryd.prog 27 #[v, .int .i64 p] w fun e w' => ∃ v', e = .returned (.tuple #[v', .int .i64 (rf l p).2.1, .int .i64 ((rf l p).2.2 : Int)]) ∧ Own w.heap.size w' v' (rf l p).1 ∧ Below w.heap.size w w' := by
  have hru := rru_any v l p w h hlen
  unfold tup3 at hru
  rcases Wn.ru_cases l p with ⟨e, he, he2, hr⟩ | ⟨q, x, n, rfl, hq, hn, hrd, hr⟩
  · rw [rf_err l p e he hr]
    rw [hr] at hru
    have HRU : Hid (Calls Tryd.prog 33 #[v, .int .i64 p] w fun e' w' => e' = .returned (.tuple #[.int .u64 ((0 : Nat) : Int), .int .i64 0, .int .i64 (e : Int)]) ∧ w = w') := hru
    have d0 : ((e : Int) != 0) = true := by rw [bne_iff_ne]; omega
    clear hru hr
    go_enter Tryd.func27, Tryd.ntmps27
    go_wp2_with fail
    refine HRU.out.mono ?_
    rintro e w1 ⟨rfl, rfl⟩
    clear HRU
    go_wp2
    go_ret3
    exact ⟨_, rfl, Own.nil _ _, Below.refl _ _⟩
  · rw [rf_at l q x n hr]
    rw [hr] at hru
    obtain ⟨hn2, hu, hx64⟩ := rd_back0 _ _ _ (ok_drop h.good q) hrd
    have hu2 : (l.take (q + n)).drop q = Wn.uint x := by
      rw [List.drop_take, show q + n - q = n by omega]
      exact hu
    generalize hq' : q + n = t at *
    have hqt : q < t := by omega
    have HRU : Hid (Calls Tryd.prog 33 #[v, .int .i64 (q : Int)] w fun e' w' => e' = .returned (.tuple #[.int .u64 (x : Int), .int .i64 (t : Int), .int .i64 ((0 : Nat) : Int)]) ∧ w = w') := hru
    have hok := h.good
    obtain ⟨b, off, cap, rfl, hcap, hmx, hcell⟩ : ∃ b off cap, v = .slice (some ⟨b, off, none⟩) l.length cap ∧ l.length ≤ cap ∧ cap ≤ maxLen ∧ ∀ j (h : j < l.length), w.cell? ⟨b, off + j, none⟩ = some (.int .u8 (l[j] : Int)) := by
      rcases h.cases with ⟨rfl, _⟩ | ⟨_, b, off, cap, h1, h2, h3, h4⟩
      · simp at hq; omega
      · exact ⟨b, off, cap, h1, h2, h3, h4⟩
    clear hru hr hrd hu hn2 hq' hn
    unfold maxLen at hmx
    unfold rfAt
    by_cases c0 : x = 0
    · subst c0
      rw [if_pos rfl]
      clear h hcell hu2
      go_enter Tryd.func27, Tryd.ntmps27
      go_wp2_with fail
      refine HRU.out.mono ?_
      rintro e w1 ⟨rfl, rfl⟩
      clear HRU
      go_wp2
      go_ret3
      exact ⟨_, rfl, Own.nil _ _, Below.refl _ _⟩
    rw [if_neg c0]
    by_cases c1 : 1048576 < x
    · rw [if_pos c1]
      clear h hcell hu2
      go_enter Tryd.func27, Tryd.ntmps27
      go_wp2_with fail
      refine HRU.out.mono ?_
      rintro e w1 ⟨rfl, rfl⟩
      clear HRU
      go_wp2
      go_ret3
      exact ⟨_, rfl, Own.nil _ _, Below.refl _ _⟩
    rw [if_neg c1]
    by_cases c2 : l.length < t + x + 5
    · rw [if_pos c2]
      clear h hcell hu2
      go_enter Tryd.func27, Tryd.ntmps27
      go_wp2_with fail
      refine HRU.out.mono ?_
      rintro e w1 ⟨rfl, rfl⟩
      clear HRU
      go_wp2
      go_ret3
      exact ⟨_, rfl, Own.nil _ _, Below.refl _ _⟩
    rw [if_neg c2]
    have hm5 : t + x + 4 < l.length := by omega
    have hcm := hcell (t + x + 4) hm5
    have hgd : l.getD (t + x + 4) 0 = l[t + x + 4] := by rw [List.getD_eq_getElem?_getD, List.getElem?_eq_getElem hm5]; rfl
    rw [hgd]
    by_cases c3 : l[t + x + 4] = 165
    · rw [if_neg (by simpa using c3)]
      have HW := frame_there l q t x hok (by omega) hu2 (by omega) (by omega) (by rw [hgd]; exact c3)
      rw [c3] at hcm
      have HB : Hid (∀ w', Below w.heap.size w w' → Bs w' (.slice (some ⟨b, off, none⟩) l.length cap) l) := fun w' hb => h.kept hb
      have hYl : ((l.take (t + x)).drop t).length = x := by simp; omega
      have HP : Hid (∀ z : Int, z = ((t + x : Nat) : Int) → Calls Tryd.prog 21 #[.slice (some ⟨b, off, none⟩) l.length cap, .int .i64 (t : Int), .int .i64 z] w fun e w' => ∃ v', e = .returned v' ∧ Own w.heap.size w' v' ((l.take (t + x)).drop t) ∧ Below w.heap.size w w') := by
        rintro z rfl
        exact rpart_any _ l t (t + x) w h hlen (by omega) (by omega)
      generalize hY : (l.take (t + x)).drop t = Y at *
      have hFl : (fr Y).length = (Wn.uint x).length + x + 5 := by rw [fr_length, hYl]
      have hUl : (Wn.uint x).length = t - q := by rw [← hu2]; simp; omega
      have hFq : q + (fr Y).length ≤ l.length := by omega
      have HWW : Hid (((l.drop q).take (fr Y).length = fr Y) ↔ sum4 (l.drop (t + x)) = Wm.crc ((l.take (t + x)).drop q)) := HW
      have HYL : Hid (Y.length = x) := hYl
      clear h hcell hu2 HW hgd c3 hY hUl hFl hYl
      have c4 : ((165 : Int) != 165) = false := by decide
      by_cases c5 : sum4 (l.drop (t + x)) = Wm.crc ((l.take (t + x)).drop q)
      · rw [if_neg (fun h => h c5)]
        have HD : Hid (decide ((l.drop q).take (fr Y).length = fr Y) = true) := decide_eq_true (HWW.out.2 c5)
        generalize hF : fr Y = F at *
        have HF : Hid (fr Y = F) := hF
        clear hF HWW c5
        go_enter Tryd.func27, Tryd.ntmps27
        go_wp2_with fail
        refine HRU.out.mono ?_
        rintro e w1 ⟨rfl, rfl⟩
        clear HRU
        go_wp2_with fail
        refine (HP.out _ (by omega)).mono ?_
        rintro e w9 ⟨v9, rfl, ho9, b9⟩
        obtain ⟨ao9, cap9, rfl, _⟩ := ho9.bs.shape
        clear HP hcm
        go_wp2_with fail
        refine (rframe_ok _ Y _ ho9.bs (by have := HYL.out; omega) (by have := HYL.out; omega)).mono ?_
        rw [HF.out]
        rintro e w10 ⟨v10, rfl, ho10, b10⟩
        obtain ⟨ao10, cap10, rfl, _⟩ := ho10.bs.shape
        have B10 := andThen b9 b10
        have ho9' := ho9.kept b10
        clear b9 b10 ho9
        go_wp2_with fail
        refine (rsame_any _ _ l F q _ (HB.out _ B10) ho10.bs hFq hlen).mono ?_
        rw [HD.out]
        rintro e w11 ⟨rfl, b11⟩
        have B11 := andThen B10 b11
        have ho9 := ho9'.kept b11
        clear b11 B10 ho9' HB ho10
        go_wp2
        go_ret3
        exact ⟨_, rfl, ho9, B11⟩
      · rw [if_pos c5]
        have HD : Hid (decide ((l.drop q).take (fr Y).length = fr Y) = false) := decide_eq_false (fun e => c5 (HWW.out.1 e))
        generalize hF : fr Y = F at *
        have HF : Hid (fr Y = F) := hF
        clear hF HWW c5
        go_enter Tryd.func27, Tryd.ntmps27
        go_wp2_with fail
        refine HRU.out.mono ?_
        rintro e w1 ⟨rfl, rfl⟩
        clear HRU
        go_wp2_with fail
        refine (HP.out _ (by omega)).mono ?_
        rintro e w9 ⟨v9, rfl, ho9, b9⟩
        obtain ⟨ao9, cap9, rfl, _⟩ := ho9.bs.shape
        clear HP hcm
        go_wp2_with fail
        refine (rframe_ok _ Y _ ho9.bs (by have := HYL.out; omega) (by have := HYL.out; omega)).mono ?_
        rw [HF.out]
        rintro e w10 ⟨v10, rfl, ho10, b10⟩
        obtain ⟨ao10, cap10, rfl, _⟩ := ho10.bs.shape
        have B10 := andThen b9 b10
        have ho9' := ho9.kept b10
        clear b9 b10 ho9
        go_wp2_with fail
        refine (rsame_any _ _ l F q _ (HB.out _ B10) ho10.bs hFq hlen).mono ?_
        rw [HD.out]
        rintro e w11 ⟨rfl, b11⟩
        have B11 := andThen B10 b11
        have ho9 := ho9'.kept b11
        clear b11 B10 ho9' HB ho10
        go_wp2
        go_ret3
        exact ⟨_, rfl, Own.nil _ _, B11⟩
    · rw [if_pos (by simpa using c3)]
      have c4 : ((l[t + x + 4] : Int) != 165) = true := by rw [bne_iff_ne]; omega
      generalize l[t + x + 4] = y at *
      clear h hcell hu2 hgd c3
      go_enter Tryd.func27, Tryd.ntmps27
      go_wp2_with fail
      refine HRU.out.mono ?_
      rintro e w1 ⟨rfl, rfl⟩
      clear HRU
      go_wp2
      go_ret3
      exact ⟨_, rfl, Own.nil _ _, Below.refl _ _⟩
end Go.Proofs.YtppgijgmhjfdfaaDoor
