/-
  Package manifest: Encode.
-/
import Derived.Test.YtfccimacloagiaaDoorMp4
namespace Go.Proofs.YtfccimacloagiaaDoor
open Go Go.RowKit
open Wb

theorem own_weakM {B B2 : Nat} {w : World} {d : Value} {l : List Nat} (h : Own B2 w d l) (hB : B ≤ B2) : Own B w d l := by
  refine ⟨⟨h.row.1, ?_⟩, h.good⟩
  rcases h.row.2 with h1 | ⟨g, cap, cur, e, hb, rest⟩
  · exact .inl h1
  · exact .inr ⟨g, cap, cur, e, Nat.le_trans hB hb, rest⟩
theorem fits_cons {b : Int} {s : Sg} {r : List Sg} (h : Fits b (s :: r)) : b ≤ s.n ∧ s.n ≤ 1099511627776 ∧ 0 ≤ s.s ∧ s.s ≤ 524288 ∧ 0 ≤ s.c ∧ s.c ≤ 524288 ∧ Fits s.n r := h
theorem ints_new (w : World) (ns : List Int) (cs : Array Value) (t : TypeId) (hcs : cs = (ns.map fun n => Value.int .i64 n).toArray) (h : ns.length ≤ 100) : IntsAt (w.alloc (.cells cs t)) (.slice (some ⟨w.heap.size, 0, none⟩) ns.length ns.length) ns := by
  subst hcs
  refine ⟨_, ns.length, rfl, Nat.le_refl _, by unfold maxLen; omega, fun k n hn => ⟨w.heap.size, 0, rfl, by rw [heap1]; omega, ?_⟩⟩
  rw [Nat.zero_add]
  have := World.cell?_alloc_new w (ns.map fun n => Value.int .i64 n).toArray t k
  rw [this]
  simp [hn]
set_option maxRecDepth 100000 in
set_option maxHeartbeats 4000000 in
theorem encode_bad (m : Mf) (v : Value) (w : World) (h : SgsAt w v m.l) (hc : chkM m ≠ 0) :
    Calls Tryd.prog 10 #[mfv m v] w fun e w' => e = .returned (.tuple #[.slice none 0 0, .int .i64 (chkM m : Int)]) ∧ Below w.heap.size w w' := by
  have HCK : Hid (∀ w', Below w.heap.size w w' → Calls Tryd.prog 8 #[mfv m v] w' fun e w'' => e = .returned (.int .i64 (chkM m : Int)) ∧ Below w'.heap.size w' w'') := fun w' hb => check_any m v w' (h.kept hb)
  obtain ⟨ao, cap, rfl, _, _, _⟩ := h
  obtain ⟨z, hz⟩ : ∃ z : Int, z = (chkM m : Int) := ⟨_, rfl⟩
  have hz0 : ¬ z = 0 := by omega
  rw [← hz] at HCK ⊢
  obtain ⟨g, vv, x, t, l⟩ := m
  unfold mfv at *
  clear hz hc
  simp only at *
  go_enter Tryd.func10, Tryd.ntmps10
  go_wp2_with (go_at_call 8; refine (HCK.out _ (up0 _ _)).mono ?_; rintro e w1 ⟨rfl, b1⟩; have B1 := andThen (up0 w _) b1)
  go_ret2
  exact ⟨rfl, B1⟩
set_option maxRecDepth 100000 in
set_option maxHeartbeats 4000000 in
theorem encode_good (m : Mf) (v : Value) (w : World) (hT : Tab w) (h : SgsAt w v m.l) (hc : chkM m = 0) (ht : m.t ≤ 9223372036854775807) :
    Calls Tryd.prog 10 #[mfv m v] w fun e w' => ∃ v', e = .returned (.tuple #[v', .int .i64 0]) ∧ Own w.heap.size w' v' (encM m) ∧ Below w.heap.size w w' := by
  have hin := info5
  have HIS : Hid ((Tryd.prog.info? 46).map (·.size) = some 3) := infoSg
  have HCK : Hid (∀ w', Below w.heap.size w w' → Calls Tryd.prog 8 #[mfv m v] w' fun e w'' => e = .returned (.int .i64 0) ∧ Below w'.heap.size w' w'') := fun w' hb => by
    have h9 := check_any m v w' (h.kept hb)
    rw [hc] at h9
    exact h9
  have HTB : Hid (∀ w', Below w.heap.size w w' → Tab w') := fun w' hb => hT.kept hb
  have HSA : Hid (∀ w', Below w.heap.size w w' → SgsAt w' v m.l) := fun w' hb => h.kept hb
  obtain ⟨p1, p2, p3, p4, p5, p6, p7, p8, p9, p10⟩ := chk_parts hc
  have HFT : Hid (Fits 0 m.l) := fits_of m.x p6 m.l 0 p10
  have HNM : Hid (∀ n ∈ numsM m, 0 ≤ n ∧ n ≤ 9223372036854775807) := numsM_le hc ht
  have HBL : Hid ((bodyM m).length ≤ 4000) := bodyM_len hc ht
  have HEN : Hid (encM m = fr (bodyM m)) := rfl
  have HBO : Hid ([77] ++ putL [m.g, m.v, m.x, m.t, (m.l.length : Int)] ++ putL (sgNums 0 m.l) = bodyM m) := by
    show _ = _
    unfold bodyM numsM
    simp [putL]
  obtain ⟨ao, cap, rfl, hc1, hc2, _⟩ := h
  unfold maxLen at hc2
  obtain ⟨E, hE⟩ : ∃ E, E = encM m := ⟨_, rfl⟩
  obtain ⟨bd, hbd⟩ : ∃ bd, bd = bodyM m := ⟨_, rfl⟩
  rw [← hE] at HEN ⊢
  rw [← hbd] at HEN HBO HBL
  obtain ⟨g, vv, x, t, l⟩ := m
  unfold mfv at *
  simp only [numsM] at *
  clear hc hE hbd p10
  have HN5 : Hid (∀ n ∈ [g, vv, x, t, (l.length : Int)], 0 ≤ n ∧ n ≤ 9223372036854775807) := fun n hn => HNM.out n (by
    simp only [List.mem_cons, List.not_mem_nil, or_false] at hn ⊢
    rcases hn with h | h | h | h | h <;> simp [h])
  have HMB : Hid (∀ w', Below (w.alloc (.cells #[.int .i64 g, .int .i64 vv, .int .i64 x, .int .i64 t, .slice ao l.length cap] 24)).heap.size (w.alloc (.cells #[.int .i64 g, .int .i64 vv, .int .i64 x, .int .i64 t, .slice ao l.length cap] 24)) w' → w'.cell? ⟨w.heap.size, 0, none⟩ = some (.int .i64 g) ∧ w'.cell? ⟨w.heap.size, 1, none⟩ = some (.int .i64 vv) ∧ w'.cell? ⟨w.heap.size, 2, none⟩ = some (.int .i64 x) ∧ w'.cell? ⟨w.heap.size, 3, none⟩ = some (.int .i64 t) ∧ w'.cell? ⟨w.heap.size, 4, none⟩ = some (.slice ao l.length cap)) := fun w' hb => by
    have hl : w.heap.size < (w.alloc (.cells #[.int .i64 g, .int .i64 vv, .int .i64 x, .int .i64 t, .slice ao l.length cap] 24)).heap.size := by rw [heap1]; omega
    refine ⟨?_, ?_, ?_, ?_, ?_⟩
    · exact (hb.cell (p := ⟨w.heap.size, 0, none⟩) hl).trans (World.cell?_alloc_new w _ _ 0)
    · exact (hb.cell (p := ⟨w.heap.size, 1, none⟩) hl).trans (World.cell?_alloc_new w _ _ 1)
    · exact (hb.cell (p := ⟨w.heap.size, 2, none⟩) hl).trans (World.cell?_alloc_new w _ _ 2)
    · exact (hb.cell (p := ⟨w.heap.size, 3, none⟩) hl).trans (World.cell?_alloc_new w _ _ 3)
    · exact (hb.cell (p := ⟨w.heap.size, 4, none⟩) hl).trans (World.cell?_alloc_new w _ _ 4)
  go_enter Tryd.func10, Tryd.ntmps10
  go_wp2_with fail
  refine (HCK.out _ (up0 _ _)).mono ?_
  rintro e w1 ⟨rfl, b1⟩
  have q0 := fun o => (HMB.out _ (up b1 o)).1
  have q1 := fun o => (HMB.out _ (up b1 o)).2.1
  have q2 := fun o => (HMB.out _ (up b1 o)).2.2.1
  have q3 := fun o => (HMB.out _ (up b1 o)).2.2.2.1
  have q4 := fun o => (HMB.out _ (up b1 o)).2.2.2.2
  have HW0 : Hid (∀ w', Below (w.alloc (.cells #[.int .i64 g, .int .i64 vv, .int .i64 x, .int .i64 t, .slice ao l.length cap] 24)).heap.size (w.alloc (.cells #[.int .i64 g, .int .i64 vv, .int .i64 x, .int .i64 t, .slice ao l.length cap] 24)) w' → Below w.heap.size w w') := fun w' hb => andThen (up0 w _) hb
  have HB1 : Hid (Below (w.alloc (.cells #[.int .i64 g, .int .i64 vv, .int .i64 x, .int .i64 t, .slice ao l.length cap] 24)).heap.size (w.alloc (.cells #[.int .i64 g, .int .i64 vv, .int .i64 x, .int .i64 t, .slice ao l.length cap] 24)) w1) := b1
  clear b1
  have HP1 : Hid (∀ o2, Calls Tryd.prog 28 #[.slice (some ⟨w1.heap.size, 0, none⟩) 1 1, .slice (some ⟨w1.heap.size + 1, 0, none⟩) 5 5] ((w1.alloc (.cells #[.int .u8 77] 5)).alloc (.cells #[.int .i64 g, .int .i64 vv, .int .i64 x, .int .i64 t, .int .i64 (l.length : Int)] o2)) fun e w' => ∃ v', e = .returned v' ∧ Own w1.heap.size w' v' ([77] ++ putL [g, vv, x, t, (l.length : Int)]) ∧ Below w1.heap.size w1 w') := fun o2 => by
    have hO := (Own.lit (B := w1.heap.size) w1 [77] (by intro q hq; simp at hq; omega) (Nat.le_refl _) (by simp [maxLen]) #[.int .u8 77] rfl).kept (up0 _ (.cells #[.int .i64 g, .int .i64 vv, .int .i64 x, .int .i64 t, .int .i64 (l.length : Int)] o2))
    have hN := ints_new (w1.alloc (.cells #[.int .u8 77] 5)) [g, vv, x, t, (l.length : Int)] #[.int .i64 g, .int .i64 vv, .int .i64 x, .int .i64 t, .int .i64 (l.length : Int)] o2 rfl (by simp)
    rw [heap1] at hN
    refine (put_any w1.heap.size _ [77] _ _ _ hO (by rw [heap1, heap1]; omega) hN (fun ao n cap b off e1 e2 e3 => ?_) HN5.out (by simp)).mono ?_
    · simp only [Value.slice.injEq] at e1
      rw [← e1.1] at e2
      simp only [Option.some.injEq, Addr.mk.injEq] at e2
      simp only [Value.ownBlock, Option.some.injEq] at e3
      omega
    · rintro e w' ⟨v', rfl, h1, h2, _⟩
      refine ⟨v', rfl, h1, ?_⟩
      exact (((Below.refl _ w1).alloc (Nat.le_refl _) _).alloc (by rw [heap1]; omega) _).grown h2 (by rw [heap1, heap1]; omega) (fun k hk => by
        simp only [Value.ownBlock, Option.some.injEq] at hk
        omega)
  go_wp2_with fail
  refine (HP1.out _).mono ?_
  rintro e w2 ⟨v2, rfl, ho2, b2⟩
  obtain ⟨a2, n2, c2, e2⟩ := own_slice ho2
  subst e2
  have HB2 : Hid (Below (w.alloc (.cells #[.int .i64 g, .int .i64 vv, .int .i64 x, .int .i64 t, .slice ao l.length cap] 24)).heap.size (w.alloc (.cells #[.int .i64 g, .int .i64 vv, .int .i64 x, .int .i64 t, .slice ao l.length cap] 24)) w2) := HB1.out.trans (b2.mono HB1.out.size)
  have q5 := (HMB.out _ HB2.out).2.2.2.2
  have HO2 : Hid (Own w1.heap.size w2 (.slice a2 n2 c2) ([77] ++ putL [g, vv, x, t, (l.length : Int)]) ∧ Below w1.heap.size w1 w2) := ⟨ho2, b2⟩
  clear ho2 b2 q0 q1 q2 q3 q4 HP1 HCK HN5
  go_wp2
  go_loopw [5, 6, 33] (fun b bf i wr => ∃ (k : Nat) (bef : Int) (cb : List Nat), k ≤ l.length ∧ i = .int .i64 (k : Int) ∧ bf = .int .i64 bef ∧ 0 ≤ bef ∧ Fits bef (l.drop k) ∧ cb ++ putL (sgNums bef (l.drop k)) = bd ∧ Own w1.heap.size wr b cb ∧ Below w1.heap.size w1 wr) (fun _ _ i _ => l.length - (intOf i).toNat)
  case atStart => exact ⟨0, 0, _, Nat.zero_le _, rfl, rfl, by omega, HFT.out, HBO.out, HO2.out.1, HO2.out.2⟩
  case round =>
    obtain ⟨k, bef, cb, hk, rfl, rfl, hb0, hft, hcb, ho, hbel⟩ := hrel
    clear HO2 q5
    by_cases hlt : k < l.length
    · obtain ⟨s, hsk⟩ : ∃ s, l[k]? = some s := ⟨l[k], List.getElem?_eq_getElem hlt⟩
      have HD : Hid (l.drop k = s :: l.drop (k + 1)) := by
        show _ = _
        rw [List.drop_eq_getElem_cons hlt]
        congr 1
        rw [List.getElem?_eq_getElem hlt] at hsk
        exact Option.some.inj hsk
      rw [HD.out] at hft hcb
      obtain ⟨f1, f2, f3, f4, f5, f6, f7⟩ := fits_cons hft
      have HBW : Hid (Below w.heap.size w wr) := HW0.out _ (HB1.out.trans (hbel.mono HB1.out.size))
      obtain ⟨ao', cap', e', _, _, hcr⟩ := HSA.out _ HBW.out
      simp only [Value.slice.injEq] at e'
      obtain ⟨rfl, _, rfl⟩ := e'
      obtain ⟨b, off, rfl, hrg⟩ := hcr k s hsk
      obtain ⟨n, z, c⟩ := s
      simp only [sgNums] at f1 f2 f3 f4 f5 f6 f7 hcb
      have HR0 : Hid (wr.rangeAt b (off + k * 3) [.int .i64 n, .int .i64 z, .int .i64 c]) := hrg
      have HOX : Hid (Own w1.heap.size wr u5 cb ∧ Below w1.heap.size w1 wr) := ⟨ho, hbel⟩
      have HCB : Hid (cb ++ putL [n - bef, z, c] ++ putL (sgNums n (l.drop (k + 1))) = bd) := by
        show _ = _
        rw [← hcb]
        simp [putL]
      have hcl : cb.length ≤ 4000 := by
        have h8 := HBL.out
        rw [← hcb, List.length_append] at h8
        omega
      have HPU : Hid (∀ o1 o2, Calls Tryd.prog 28 #[u5, .slice (some ⟨wr.heap.size + 1, 0, none⟩) 3 3] ((wr.alloc o1).alloc (.cells #[.int .i64 (n - bef), .int .i64 z, .int .i64 c] o2)) fun e w' => ∃ v', e = .returned v' ∧ Own w1.heap.size w' v' (cb ++ putL [n - bef, z, c]) ∧ ((wr.alloc o1).alloc (.cells #[.int .i64 (n - bef), .int .i64 z, .int .i64 c] o2)).grownBy w' u5.ownBlock) := fun o1 o2 => by
        have hlt5 : ∀ g, u5.ownBlock = some g → w1.heap.size ≤ g ∧ g < wr.heap.size := fun g hg => World.ownsRow.lt HOX.out.1.row g hg
        have hO := (HOX.out.1.kept (up0 _ o1)).kept (up0 _ (.cells #[.int .i64 (n - bef), .int .i64 z, .int .i64 c] o2))
        have hN := ints_new (wr.alloc o1) [n - bef, z, c] #[.int .i64 (n - bef), .int .i64 z, .int .i64 c] o2 rfl (by simp)
        rw [heap1] at hN
        have hs := HOX.out.2.size
        refine (put_any w1.heap.size _ cb _ _ _ hO (by rw [heap1, heap1]; omega) hN (fun ao n cap b off e1 e2 e3 => ?_) (fun q hq => ?_) (by simp; omega)).mono ?_
        · simp only [Value.slice.injEq] at e1
          rw [← e1.1] at e2
          simp only [Option.some.injEq, Addr.mk.injEq] at e2
          have := (hlt5 _ e3).2
          omega
        · simp only [List.mem_cons, List.not_mem_nil, or_false] at hq
          rcases hq with rfl | rfl | rfl <;> omega
        · rintro e w' ⟨v', rfl, h1, h2, _⟩
          exact ⟨v', rfl, h1, h2⟩
      have HU5 : Hid (∀ g, u5.ownBlock = some g → w1.heap.size ≤ g ∧ g < wr.heap.size) := fun g hg => World.ownsRow.lt ho.row g hg
      have HSI : Hid (w1.heap.size ≤ wr.heap.size) := hbel.size
      obtain ⟨a5, m5, c5, e5⟩ := own_slice ho
      subst e5
      have hbn : bef ≤ 1099511627776 := by omega
      clear hcr hsk hrg ho hbel hft hcb HD HSA
      go_wp2_with (refine wpList_load_mid rfl 46 _ rfl b (off + k * 3) rfl [.int .i64 n, .int .i64 z, .int .i64 c] _ HR0.out Tryd.underlying46 rfl HIS.out ?_)
      refine (HPU.out _ _).mono ?_
      rintro e w3 ⟨v3, rfl, ho3, g3⟩
      obtain ⟨a3, n3, c3, e3⟩ := own_slice ho3
      subst e3
      have hl3 : w3.cell? ⟨wr.heap.size, 0, none⟩ = some (.int .i64 n) := by
        have h1 := g3.block wr.heap.size (by rw [heap1, heap1]; omega) (fun e => by have := (HU5.out _ e.symm).2; omega)
        rw [World.cell?_of_block (a := ⟨wr.heap.size, 0, none⟩) h1]
        exact ((up0 (wr.alloc _) _).cell (p := ⟨wr.heap.size, 0, none⟩) (by show wr.heap.size < (wr.alloc _).heap.size; rw [heap1]; omega)).trans (World.cell?_alloc_new wr _ _ 0)
      have R : Hid (Own w1.heap.size w3 (.slice a3 n3 c3) (cb ++ putL [n - bef, z, c]) ∧ Below w1.heap.size w1 w3) := ⟨ho3, by
        have hs := HSI.out
        exact ((HOX.out.2.alloc hs _).alloc (by rw [heap1]; omega) _).grown g3 (by rw [heap1, heap1]; omega) (fun k hk => (HU5.out k hk).1)⟩
      clear ho3 g3 HPU HOX HR0 HU5
      go_wp2
      go_roundw
      case rel => exact ⟨k + 1, n, _, by omega, by go_num, rfl, by omega, f7, HCB.out, R.out.1, R.out.2⟩
      case measure => simp [intOf]; omega
    · obtain rfl : k = l.length := by omega
      rw [List.drop_length] at hcb
      simp only [sgNums] at hcb
      have hcb2 : cb = bd := by rw [← hcb]; simp [putL]
      subst hcb2
      have HBW : Hid (Below w.heap.size w wr) := HW0.out _ (HB1.out.trans (hbel.mono HB1.out.size))
      have HFR : Hid (∀ o2, Calls Tryd.prog 29 #[.slice (some ⟨wr.heap.size, 0, none⟩) 1 1] (wr.alloc (.cells #[u5] o2)) fun e w' => ∃ v', e = .returned (.tuple #[v', .int .i64 0]) ∧ Own w.heap.size w' v' E ∧ Below w.heap.size w w') := fun o2 => by
        have h1 := frame_ok (.slice (some ⟨wr.heap.size, 0, none⟩) 1 1) [cb] (wr.alloc (.cells #[u5] o2)) (HTB.out _ (up HBW.out _)) (ps1 wr _ rfl o2 ho.bs) (by simp; have := HBL.out; omega) (by
          have h9 := HBO.out
          rw [← h9]
          simp)
        refine h1.mono ?_
        rintro e w' ⟨v', rfl, h2, h3⟩
        refine ⟨v', rfl, ?_, andThen (up HBW.out _) h3⟩
        rw [HEN.out]
        simp only [List.flatten_cons, List.flatten_nil, List.append_nil] at h2
        refine own_weakM h2 ?_
        rw [heap1]
        have := HBW.out.size
        omega
      obtain ⟨a5, m5, c5, e5⟩ := own_slice ho
      subst e5
      clear ho hbel hcb hft HSA HBO HEN
      go_wp2_with fail
      refine (HFR.out _).mono ?_
      rintro e w3 ⟨v3, rfl, ho3, b3⟩
      obtain ⟨a3, n3, c3, e3⟩ := own_slice ho3
      subst e3
      go_wp2
      go_ret2
      exact ⟨_, rfl, ho3, b3⟩
end Go.Proofs.YtfccimacloagiaaDoor
