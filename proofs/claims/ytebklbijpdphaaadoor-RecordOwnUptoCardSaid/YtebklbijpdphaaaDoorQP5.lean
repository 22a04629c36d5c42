import Derived.Deep.QuietTactic
import Derived.BigQuiet
import Derived.Test.YtebklbijpdphaaaDoorQP4
/-
  RecordOwn: fields2's walk.
-/
namespace Go.Proofs.YtebklbijpdphaaaDoor
open Go Go.RowKit
open Wb

theorem rem3n (k : Nat) : Int.tmod (k : Int) 3 = ((k % 3 : Nat) : Int) := by
  rw [Int.tmod_eq_emod_of_nonneg (by omega)]
  omega
theorem rem2n (k : Nat) : Int.tmod (k : Int) 2 = ((k % 2 : Nat) : Int) := by
  rw [Int.tmod_eq_emod_of_nonneg (by omega)]
  omega
theorem quo2n (k : Nat) : Int.tdiv (k : Int) 2 = ((k / 2 : Nat) : Int) := by
  rw [Int.tdiv_eq_ediv_of_nonneg (by omega)]
  omega
theorem quo6n (k : Nat) : Int.tdiv (k : Int) 6 = ((k / 6 : Nat) : Int) := by
  rw [Int.tdiv_eq_ediv_of_nonneg (by omega)]
  omega
set_option maxRecDepth 100000 in
set_option maxHeartbeats 10000000 in
theorem fields2_any (w : World) (hT : Fld.TagsT w) : Calls Tryd.prog 7 #[] w fun e w' => e = .returned (.bool true) ∧ Below w.heap.size w w' := by
  have hi8 := infoTI8
  have h24 := infoTIS24
  have HFI : Hid (∀ (w' : World) (i : Nat) (a b : Int), Below w.heap.size w w' → a = ((1 + i / 2 % 3 : Nat) : Int) → b = ((1 + i / 6 : Nat) : Int) → Calls Tryd.prog 39 #[.int .i64 a, .int .i64 b] w' fun e w'' => ∃ (ao : Option Addr) (n c : Nat), e = .returned (.slice ao n c) ∧ n = (F2 i).length ∧ Fld.RoI w'.heap.size w'' (.slice ao n c) (F2 i) ∧ Below w'.heap.size w' w'') := fun w' i a b hb ha hb' => by
    subst ha hb'
    exact (Fld.fields_any _ _ w' (hT.kept hb)).mono fun e w'' ⟨o, he, ho, hbb⟩ => by
      obtain ⟨ao, cap, e1⟩ := ho.shape
      rw [e1] at ho he
      exact ⟨ao, _, cap, he, rfl, ho, hbb⟩
  clear hT
  go_enter Tryd.func7, Tryd.ntmps7
  go_wp2
  go_loopw [1, 2, 3] (fun o vw i wr => ∃ (vs cs : List Value), vs.length ≤ 42 ∧ cs.length = vs.length ∧ i = .int .i64 (vs.length : Int) ∧ LI w.heap.size wr o vw vs cs ∧ Below w.heap.size w wr) (fun _ _ i _ => 42 - (intOf i).toNat)
  case atStart => exact ⟨[], [], Nat.zero_le _, rfl, rfl, LI.nil _ _, Below.refl _ _⟩
  case round =>
    obtain ⟨vs, cs, hvl, hcl, rfl, hL, hbel⟩ := hrel
    by_cases hlt : vs.length < 42
    · obtain ⟨k, hk⟩ : ∃ k, vs.length = k := ⟨_, rfl⟩
      rw [hk] at hlt ⊢
      have HK : Hid (vs.length = k ∧ cs.length = k) := ⟨hk, by rw [hcl, hk]⟩
      have e2 := quo2n k
      have e6 := quo6n k
      have e3 := rem3n (k / 2)
      have HF2 : Hid (∀ w', Below w.heap.size w w' → Calls Tryd.prog 39 #[.int .i64 (1 + ((k / 2 % 3 : Nat) : Int)), .int .i64 (1 + ((k / 6 : Nat) : Int))] w' fun e w'' => ∃ (ao : Option Addr) (n c : Nat), e = .returned (.slice ao n c) ∧ n = (F2 k).length ∧ Fld.RoI w'.heap.size w'' (.slice ao n c) (F2 k) ∧ Below w'.heap.size w' w'') := fun w' hb => HFI.out w' k _ _ hb (by omega) (by omega)
      obtain ⟨hl2, hl7⟩ := F2_len k hlt
      have q2 : k / 2 % 3 < 3 := Nat.mod_lt _ (by decide)
      have q6 : k / 6 < 7 := by omega
      have q22 : k / 2 < 21 := by omega
      have HX : Hid (LI w.heap.size wr u1 u2 vs cs ∧ Below w.heap.size w wr) := ⟨hL, hbel⟩
      have hsz := hbel.size
      have HBV : Hid ((∀ (i : Nat) (v : Value), vs[i]? = some v → ∀ g, v.ownBlock = some g → g < wr.heap.size) ∧ ∀ (i : Nat) (v : Value), cs[i]? = some v → ∀ g, v.ownBlock = some g → g < wr.heap.size) := ⟨fun i v hv g hg => (World.ownsRow.lt (hL.each i v hv) g hg).2, fun i v hv g hg => (World.ownsRow.lt (hL.weach i v hv) g hg).2⟩
      generalize k / 2 % 3 = p3 at *
      generalize k / 2 = p2 at *
      generalize k / 6 = p6 at *
      clear hL hbel hk hcl
      go_wp2_with fail
      refine (HF2.out _ HX.out.2).mono ?_
      rintro e w1 ⟨af, nf, cf, rfl, hnf, hof, b1⟩
      have HOF : Hid (Fld.RoI wr.heap.size w1 (.slice af nf cf) (F2 k) ∧ Below wr.heap.size wr w1) := ⟨hof, b1⟩
      clear hof b1 hnf HF2 e2 e3 e6
      have hlp : 0 < (F2 k).length := by omega
      go_wp2_with (at_builtin; refine wpList_append_nums _ rfl (.tmp 28) (.tmp 29) 72 rfl hi8 Tryd.underlying72 rfl wr.heap.size (.slice af nf cf) (F2 k) HOF.out.1 rfl hlp hl7 ?_)
      intro vc w2 hoc b2
      obtain ⟨ac, cc, ec⟩ := hoc.shape
      subst ec
      have B2 := andThen HOF.out.2 b2
      have HL2 : Hid (∀ o, LI w.heap.size (w2.alloc o) u1 u2 vs cs ∧ Fld.RoI w1.heap.size (w2.alloc o) (.slice ac (F2 k).length cc) (F2 k) ∧ Fld.RoI wr.heap.size (w2.alloc o) (.slice af nf cf) (F2 k) ∧ Below w.heap.size w (w2.alloc o)) := fun o => ⟨(HX.out.1.kept B2).kept (up0 _ _), hoc.kept (up0 _ _), (HOF.out.1.kept b2).kept (up0 _ _), up (andThen HX.out.2 B2) _⟩
      have HFB : Hid ((∀ g, (Value.slice af nf cf).ownBlock = some g → wr.heap.size ≤ g ∧ g < w1.heap.size) ∧ (∀ g, (Value.slice ac (F2 k).length cc).ownBlock = some g → w1.heap.size ≤ g) ∧ wr.heap.size ≤ w1.heap.size) := ⟨fun g hg => World.ownsRow.lt HOF.out.1 g hg, fun g hg => (World.ownsRow.lt hoc g hg).1, HOF.out.2.size⟩
      have hs2 : w.heap.size ≤ w2.heap.size := (andThen HX.out.2 B2).size
      have hck : cs.length ≤ 5000000000 ∧ vs.length ≤ 5000000000 := by have := HK.out; omega
      clear hoc b2 HOF HX B2
      generalize (F2 k).length = nc at *
      go_wp2_with (at_builtin; refine wpList_append_lst _ rfl (.tmp 31) (.tmp 33) 71 rfl w.heap.size h24 Tryd.underlying71 _ cs rfl (HL2.out _).1.wrow w2.heap.size (.slice ac nc cc) rfl (World.cell?_alloc_new w2 _ _ 0) rfl hck.1 (by simp; omega) ?_)
      intro vw' w3 hr3 hg3 hat3
      have HL3 : Hid (∀ o, LI w.heap.size (w3.alloc o) u1 vw' vs (cs ++ [.slice ac nc cc]) ∧ Fld.RoI w.heap.size (w3.alloc o) (.slice af nf cf) (F2 k) ∧ Below w.heap.size w (w3.alloc o) ∧ w.heap.size ≤ (w3.alloc o).heap.size) := fun o => by
        have h1 := (HL2.out (.cells #[.slice ac nc cc] 72))
        have hr3' : w3.ownsRow w.heap.size 72 1 vw' (cs.length + 1) (cs ++ [.slice ac nc cc]) := by
          have := hr3
          unfold RowIs at this
          rw [List.length_append] at this
          exact this
        have hwc : Fld.RoI w.heap.size (w2.alloc (.cells #[.slice ac nc cc] 72)) (.slice ac nc cc) (F2 cs.length) := by rw [HK.out.2]; exact roI_weak h1.2.1 (by have := HFB.out.2.2; omega)
        have h2 := h1.1.moreW hwc (fun i v hv g hg hg' => by have h7 := HBV.out.1 i v hv g hg; have h8 := HFB.out.2.1 g hg'; have h9 := HFB.out.2.2; omega) hr3' hg3 (by rw [heap_one]; exact hat3)
        have hb := up (h1.2.2.2.trans (grown_below h1.1.wrow hg3 h1.2.2.2.size)) o
        exact ⟨h2.kept (up0 _ _), (roI_grown (roI_weak h1.2.2.1 hsz) h1.1.wrow hg3).kept (up0 _ _), hb, hb.size⟩
      clear hr3 hg3 hat3 HL2
      go_wp2_with (at_builtin; refine wpList_append_lst _ rfl (.tmp 35) (.tmp 37) 71 rfl w.heap.size h24 Tryd.underlying71 _ vs rfl (HL3.out _).1.row w3.heap.size (.slice af nf cf) rfl (World.cell?_alloc_new w3 _ _ 0) rfl hck.2 (HL3.out _).2.2.2 ?_)
      intro o' w4 hr4 hg4 hat4
      have R : Hid (LI w.heap.size w4 o' vw' (vs ++ [.slice af nf cf]) (cs ++ [.slice ac nc cc]) ∧ Below w.heap.size w w4 ∧ (vs ++ [Value.slice af nf cf]).length = k + 1 ∧ (cs ++ [Value.slice ac nc cc]).length = k + 1) := by
        have h1 := HL3.out (.cells #[.slice af nf cf] 72)
        have hr4' : w4.ownsRow w.heap.size 72 1 o' (vs.length + 1) (vs ++ [.slice af nf cf]) := by
          have := hr4
          unfold RowIs at this
          rw [List.length_append] at this
          exact this
        refine ⟨h1.1.moreL (by rw [HK.out.1]; exact h1.2.1) (fun i v hv g hg hg' => by have h7 := HBV.out.1 i v hv g hg; have h8 := HFB.out.1 g hg'; omega) (fun i c hc g hg hg' => ?_) hr4' hg4 (by rw [heap_one]; exact hat4), h1.2.2.1.trans (grown_below h1.1.row hg4 h1.2.2.2), by rw [List.length_append, HK.out.1]; rfl, by rw [List.length_append, HK.out.2]; rfl⟩
        rcases snoc_case hc with ⟨_, hc2⟩ | ⟨_, hc2⟩
        · have h7 := HBV.out.2 i c hc2 g hg'
          have h8 := HFB.out.1 g hg
          omega
        · rw [hc2] at hg'
          have h7 := HFB.out.2.1 g hg'
          have h8 := HFB.out.1 g hg
          omega
      clear hr4 hg4 hat4 HL3 HBV HFB
      go_wp2
      go_roundw
      case rel => exact ⟨_, _, by rw [R.out.2.2.1]; omega, by rw [R.out.2.2.1, R.out.2.2.2], by rw [R.out.2.2.1]; go_num, R.out.1, R.out.2.1⟩
      case measure => simp [intOf]; omega
    · have h42 : vs.length = 42 := by omega
      have h42c : cs.length = 42 := by omega
      rw [h42]
      rw [show ((42 : Nat) : Int) = (42 : Int) from rfl]
      obtain ⟨gL, cL, eL, hcL1, hcL2, hgL, hcl0⟩ := row_cell hL.row (by omega)
      obtain ⟨gV, cV, eV, hcV1, hcV2, hgV, hcv0⟩ := row_cell hL.wrow (by omega)
      unfold maxLen at hcL2 hcV2
      rw [h42] at eL hcL1
      rw [h42c] at eV hcV1
      subst eL eV
      generalize wr = wA at *
      have HLI : Hid (LI w.heap.size wA (.slice (some ⟨gL, 0, none⟩) 42 cL) (.slice (some ⟨gV, 0, none⟩) 42 cV) vs cs ∧ Below w.heap.size w wA ∧ vs.length = 42 ∧ cs.length = 42) := ⟨hL, hbel, h42, h42c⟩
      have HVS : Hid (∀ j, j < 42 → ∃ a, ∃ c : Nat, vs[j]? = some (.slice a (F2 j).length c) ∧ (F2 j).length ≤ c ∧ c ≤ 9223372036854775807) := fun j hj => by
        have hj' : vs[j]? = some vs[j] := List.getElem?_eq_getElem (by omega)
        obtain ⟨a, c, e, h1, h2⟩ := row_slice (hL.each j _ hj')
        unfold maxLen at h2
        exact ⟨a, c, by rw [hj', e], h1, by omega⟩
      have HCS : Hid (∀ j, j < 42 → ∃ a, ∃ c : Nat, cs[j]? = some (.slice a (F2 j).length c)) := fun j hj => by
        have hj' : cs[j]? = some cs[j] := List.getElem?_eq_getElem (by omega)
        obtain ⟨a, c, e, _⟩ := row_slice (hL.weach j _ hj')
        exact ⟨a, c, by rw [hj', e]⟩
      have HCL : Hid (∀ w', Below wA.heap.size wA w' → (∀ (k : Nat) (x : Value), vs[k]? = some x → w'.cell? ⟨gL, k, none⟩ = some x) ∧ ∀ (k : Nat) (x : Value), cs[k]? = some x → w'.cell? ⟨gV, k, none⟩ = some x) := fun w' hb => ⟨fun k x hx => (hb.cell (p := ⟨gL, k, none⟩) hgL).trans (hcl0 k x hx), fun k x hx => (hb.cell (p := ⟨gV, k, none⟩) hgV).trans (hcv0 k x hx)⟩
      have HSI : Hid (∀ w' a b l, Fld.SlI w' a l → Fld.SlI w' b l → l.length ≤ 7 → Calls Tryd.prog 40 #[a, b] w' fun e w'' => e = .returned (.bool true) ∧ ∃ n, w'' = w'.drewN n) := fun w' a b l h1 h2 h3 => Fld.sameI_any l a b w' h1 h2 (by omega)
      clear hL hbel h42 h42c hcl hvl hlt hcl0 hcv0
      go_wp2
      go_loopw [6] (fun i wr => ∃ j : Nat, j ≤ 42 ∧ i = .int .i64 (j : Int) ∧ Below wA.heap.size wA wr) (fun i _ => 42 - (intOf i).toNat)
      case atStart => exact ⟨0, Nat.zero_le _, rfl, Below.refl _ _⟩
      case round =>
        obtain ⟨j, hj, rfl, hbel⟩ := hrel
        by_cases hlt : j < 42
        · obtain ⟨a1, c1, hv1, _⟩ := HVS.out j hlt
          obtain ⟨a2, c2, hv2⟩ := HCS.out j hlt
          obtain ⟨hl2, hl7⟩ := F2_len j hlt
          have HSA : Hid (∀ w', Below wA.heap.size wA w' → Calls Tryd.prog 40 #[.slice a1 (F2 j).length c1, .slice a2 (F2 j).length c2] w' fun e w'' => e = .returned (.bool true) ∧ ∃ n, w'' = w'.drewN n) := fun w' hb => HSI.out w' _ _ (F2 j) ((HLI.out.1.kept hb).each j _ hv1).sl ((HLI.out.1.kept hb).weach j _ hv2).sl hl7
          by_cases hodd : j % 2 = 1
          · obtain ⟨p, hjp⟩ : ∃ p, j = p + 1 := ⟨j - 1, by omega⟩
            obtain ⟨a3, c3, hv3, _⟩ := HVS.out p (by omega)
            have e9 : F2 j = F2 p := by rw [F2_odd j hodd, hjp]; rfl
            have HSA2 : Hid (∀ w', Below wA.heap.size wA w' → Calls Tryd.prog 40 #[.slice a1 (F2 j).length c1, .slice a2 (F2 j).length c2] w' fun e w'' => e = .returned (.bool true) ∧ Below w'.heap.size w' w'') := fun w' hb => (HSA.out w' hb).mono fun e w'' ⟨he, n, hw⟩ => ⟨he, by rw [hw]; exact bdrew (Below.refl _ _) n⟩
            have HSB : Hid (∀ w', Below wA.heap.size wA w' → Calls Tryd.prog 40 #[.slice a1 (F2 j).length c1, .slice a3 (F2 p).length c3] w' fun e w'' => e = .returned (.bool true) ∧ Below w'.heap.size w' w'') := fun w' hb => (HSI.out w' _ _ (F2 j) ((HLI.out.1.kept hb).each j _ hv1).sl (by
              have := ((HLI.out.1.kept hb).each p _ hv3).sl
              rw [e9]
              exact this) hl7).mono fun e w'' ⟨he, n, hw⟩ => ⟨he, by rw [hw]; exact bdrew (Below.refl _ _) n⟩
            have HCE : Hid (∀ w', Below wA.heap.size wA w' → w'.cell? ⟨gL, j, none⟩ = some (.slice a1 (F2 j).length c1) ∧ w'.cell? ⟨gV, j, none⟩ = some (.slice a2 (F2 j).length c2) ∧ w'.cell? ⟨gL, p, none⟩ = some (.slice a3 (F2 p).length c3)) := fun w' hb => ⟨(HCL.out _ hb).1 _ _ hv1, (HCL.out _ hb).2 _ _ hv2, (HCL.out _ hb).1 _ _ hv3⟩
            have t2 : Int.tmod (j : Int) 2 = 1 := by
              have h9 := rem2n j
              rw [hodd] at h9
              exact h9
            have hs2 : IntKind.wrap .i64 ((j : Int) - 1) = (p : Int) := by unfold IntKind.wrap; simp [IntKind.bits, IntKind.signed]; omega
            have hp2 : (j : Int) < 42 := by omega
            have hp3 : (p : Int) < 42 := by omega
            have hp6 : p < 42 := by omega
            clear hv1 hv2 hv3 e9 HSI hodd hjp HSA
            generalize (F2 j).length = n1 at *
            generalize (F2 p).length = n3 at *
            obtain ⟨x1, x2, x3⟩ := HCE.out _ hbel
            have dn : decide ((n1 : Int) < 2) = false := decide_eq_false (by omega)
            go_upto_region 14 with fail
            go_cut [78] from 39 to 78 (fun s wx => s = .bool false ∧ Below wA.heap.size wA wx)
            case first =>
              go_region_held (fun w' => w'.cell? ⟨gL, j, none⟩ = some (.slice a1 n1 c1) ∧ w'.cell? ⟨gV, j, none⟩ = some (.slice a2 n1 c2) ∧ w'.cell? ⟨gL, p, none⟩ = some (.slice a3 n3 c3)) (first | (exact HCE.out _ (Below.drew hbel)) | (exact HCE.out _ B2) | (exact HCE.out _ B1))
                (first
                  | (go_at_call 40; have hB1 := B1; refine (HSB.out _ hB1).mono ?_; rintro e w2 ⟨rfl, b2⟩; have B2 := andThen B1 b2)
                  | (go_at_call 40; refine (HSA2.out _ ?_).mono ?_; (exact Below.drew hbel); rintro e w1 ⟨rfl, b1⟩; have B1 := andThen (Below.drew hbel) b1))
              go_wp2_with fail
              go_meet
              exact ⟨rfl, B2⟩
            case rest =>
              obtain ⟨rfl, hb2⟩ := hcut
              clear hbel HCE HSA2 HSB x1 x2 x3
              go_wp2
              go_roundw
              case rel => exact ⟨j + 1, by omega, by go_num, hb2⟩
              case measure => simp [intOf]; omega
          · have HCE : Hid (∀ w', Below wA.heap.size wA w' → w'.cell? ⟨gL, j, none⟩ = some (.slice a1 (F2 j).length c1) ∧ w'.cell? ⟨gV, j, none⟩ = some (.slice a2 (F2 j).length c2)) := fun w' hb => ⟨(HCL.out _ hb).1 _ _ hv1, (HCL.out _ hb).2 _ _ hv2⟩
            have t2 := rem2n j
            have hm2 : j % 2 = 0 := by omega
            have dm : (((j % 2 : Nat) : Int) == 1) = false := by rw [hm2]; rfl
            have dm2 : ¬ (((j % 2 : Nat) : Int) = 1) := by omega
            have dm3 : ¬ (j % 2 = 1) := by omega
            have dm4 : j % 2 < 2 := by omega
            generalize j % 2 = m2 at *
            clear hm2
            have hp2 : (j : Int) < 42 := by omega
            clear hv1 hv2 HSI hodd
            generalize (F2 j).length = n1 at *
            have HQA : Hid (∀ n, Calls Tryd.prog 40 #[.slice a1 n1 c1, .slice a2 n1 c2] (wr.drewN n) fun e w'' => e = .returned (.bool true) ∧ ∃ m, w'' = (wr.drewN n).drewN m) := fun n => HSA.out _ (bdrew hbel n)
            obtain ⟨x1, x2⟩ := HCE.out _ hbel
            have dn : decide ((n1 : Int) < 2) = false := decide_eq_false (by omega)
            go_upto_region 14 with fail
            go_cut [78] from 39 to 78 (fun s wx => s = .bool false ∧ Below wA.heap.size wA wx)
            case first =>
              go_quiet (first | (go_at_call 40; refine Calls.quiet_of (HQA.out _)))
              go_wp2_with fail
              go_meet
              exact ⟨rfl, bdrew hbel _⟩
            case rest =>
              obtain ⟨rfl, hb2⟩ := hcut
              clear hbel HCE HSA x1 x2
              go_wp2
              go_roundw
              case rel => exact ⟨j + 1, by omega, by go_num, hb2⟩
              case measure => simp [intOf]; omega
        · obtain rfl : j = 42 := by omega
          rw [show ((42 : Nat) : Int) = (42 : Int) from rfl]
          generalize wr = wB at *
          obtain ⟨n, hn⟩ : ∃ n : Nat → Nat, n = fun j => (F2 j).length := ⟨_, rfl⟩
          have HS0 : Hid (SI w.heap.size wA wB vs (fun j => Fld.ic (F2 j)) n 0 0) := by
            have hk := HLI.out.1.kept hbel
            refine ⟨fun j v hv => ?_, hk.apart, (fun j p x hj => by omega), fun j => by rw [hn]; simp [Fld.ic], ⟨hbel.size, fun g hg _ => hbel.block g hg⟩, hbel.mono HLI.out.2.1.size, Nat.le_trans HLI.out.2.1.size hbel.size⟩
            have h9 := hk.each j v hv
            have e9 : (Fld.ic (F2 j)).length = (F2 j).length := by simp [Fld.ic]
            rw [e9]
            exact h9
          have HVN : Hid (∀ j, j < 42 → ∃ a, ∃ c : Nat, vs[j]? = some (.slice a (n j) c) ∧ n j ≤ 7 ∧ n j ≤ c ∧ c ≤ 9223372036854775807) := fun j hj => by
            obtain ⟨a, c, h1, h2, h3⟩ := HVS.out j hj
            rw [hn]
            exact ⟨a, c, h1, (F2_len j hj).2, h2, h3⟩
          have HCK : Hid (∀ w', Frm vs wA w' → (∀ (k : Nat) (x : Value), vs[k]? = some x → w'.cell? ⟨gL, k, none⟩ = some x) ∧ ∀ (k : Nat) (x : Value), cs[k]? = some x → w'.cell? ⟨gV, k, none⟩ = some x) := fun w' hf => by
            have hL := HLI.out.1
            have oL := fun g (hg : (Value.slice (some ⟨gL, 0, none⟩) 42 cL).ownBlock = some g) => hf.same g (World.ownsRow.lt hL.row g hg).2 (fun d hd e => by
              obtain ⟨i, hi⟩ := List.mem_iff_getElem?.1 hd
              exact rows_apart hL.row (hL.each i d hi) (by decide) g hg e)
            have oV := fun g (hg : (Value.slice (some ⟨gV, 0, none⟩) 42 cV).ownBlock = some g) => hf.same g (World.ownsRow.lt hL.wrow g hg).2 (fun d hd e => by
              obtain ⟨i, hi⟩ := List.mem_iff_getElem?.1 hd
              exact rows_apart hL.wrow (hL.each i d hi) (by decide) g hg e)
            have r1 : w'.ownsRow w.heap.size 72 1 (.slice (some ⟨gL, 0, none⟩) 42 cL) vs.length vs := owns_block hL.row oL
            have r2 : w'.ownsRow w.heap.size 72 1 (.slice (some ⟨gV, 0, none⟩) 42 cV) cs.length cs := owns_block hL.wrow oV
            rw [HLI.out.2.2.1] at r1
            rw [HLI.out.2.2.2] at r2
            refine ⟨fun k x hx => ?_, fun k x hx => ?_⟩
            · rw [World.ownsRow.cellAt r1 k (by have := (List.getElem?_eq_some_iff.1 hx).1; have := HLI.out.2.2.1; have := HLI.out.2.2.2; omega)]
              exact hx
            · rw [World.ownsRow.cellAt r2 k (by have := (List.getElem?_eq_some_iff.1 hx).1; have := HLI.out.2.2.1; have := HLI.out.2.2.2; omega)]
              exact hx
          clear hbel hn HVS HCS HCL
          go_wp2
          go_loopw [7] (fun kk wr => ∃ (k : Nat) (X : Nat → List Value), k ≤ 42 ∧ kk = .int .i64 (k : Int) ∧ SI w.heap.size wA wr vs X n k 0) (fun kk _ => 42 - (intOf kk).toNat)
          case atStart => exact ⟨0, _, Nat.zero_le _, rfl, HS0.out⟩
          case round =>
            obtain ⟨k, X, hk, rfl, hS⟩ := hrel
            clear HS0
            by_cases hlt : k < 42
            · obtain ⟨ak, ck, hvk, hnk, hck1, hck2⟩ := HVN.out k hlt
              have HX : Hid (SI w.heap.size wA wr vs X n k 0) := hS
              have HVK : Hid (vs[k]? = some (.slice ak (n k) ck)) := hvk
              have hki : (k : Int) < 42 := by omega
              clear hS hvk
              go_wp2
              go_loopw [8] (fun ii wx => ∃ (i : Nat) (X : Nat → List Value), i ≤ n k ∧ ii = .int .i64 (i : Int) ∧ SI w.heap.size wA wx vs X n k i) (fun ii _ => n k - (intOf ii).toNat)
              case atStart => exact ⟨0, X, Nat.zero_le _, rfl, HX.out⟩
              case round =>
                obtain ⟨i, X, hi, rfl, hS⟩ := hrel
                clear HX
                have c0 := (HCK.out _ hS.frm).1 _ _ HVK.out
                by_cases hli : i < n k
                · have hbk := hS.base k _ HVK.out
                  obtain ⟨g, rfl⟩ : ∃ g, ak = some ⟨g, 0, none⟩ := by
                    rcases hbk.2 with ⟨e, h1⟩ | ⟨g, cap, cur, e, _⟩
                    · rw [hS.lens k] at h1; omega
                    · simp only [Value.slice.injEq] at e
                      exact ⟨g, e.1⟩
                  rw [hS.lens k] at hbk
                  obtain ⟨y, hy⟩ : ∃ y, (X k)[i]? = some y := ⟨(X k)[i]'(by rw [hS.lens k]; exact hli), List.getElem?_eq_getElem _⟩
                  have hcy : wr.cell? ⟨g, i, none⟩ = some y := by rw [World.ownsRow.cellAt hbk i (by omega)]; exact hy
                  have hfz := row_frozen hbk i
                  have HR : Hid (∀ z : Int, z = ((100 + k : Nat) : Int) → SI w.heap.size wA (wr.setCell ⟨g, i, none⟩ (.int .i64 z)) vs (fun j => if j = k then (X k).set i (.int .i64 ((100 + k : Nat) : Int)) else X j) n k (i + 1)) := fun z hz => by
                    subst hz
                    exact hS.put HVK.out
                  clear hS hbk hy
                  go_wp2
                  go_roundw
                  case rel => exact ⟨i + 1, _, by omega, by go_num, HR.out _ (by omega)⟩
                  case measure => simp [intOf]; omega
                · obtain rfl : i = n k := by omega
                  have HN : Hid (SI w.heap.size wA wr vs X n (k + 1) 0) := hS.next
                  clear hS
                  go_wp2
                  go_roundw
                  case rel => exact ⟨k + 1, X, by omega, by go_num, HN.out⟩
                  case measure => simp [intOf]; omega
            · obtain rfl : k = 42 := by omega
              rw [show ((42 : Nat) : Int) = (42 : Int) from rfl]
              generalize wr = wC at *
              have HGG : Hid (GI w.heap.size wA wC vs X n [] (fun _ => []) (.slice none 0 0)) := GI.start hS
              have HBA : Hid (w.heap.size ≤ wA.heap.size) := HLI.out.2.1.size
              clear hS
              go_wp2
              go_loopw [9, 10] (fun m kk wr => ∃ (gs : List Value) (Y : Nat → List Value), gs.length ≤ 42 ∧ kk = .int .i64 (gs.length : Int) ∧ GI w.heap.size wA wr vs X n gs Y m) (fun _ kk _ => 42 - (intOf kk).toNat)
              case atStart => exact ⟨[], _, Nat.zero_le _, rfl, HGG.out⟩
              case round =>
                obtain ⟨gs, Y, hgl, rfl, hG⟩ := hrel
                clear HGG
                by_cases hlt : gs.length < 42
                · obtain ⟨k, hk⟩ : ∃ k, gs.length = k := ⟨_, rfl⟩
                  rw [hk] at hlt ⊢
                  obtain ⟨ak, ck, hvk, hnk, hck1, hck2⟩ := HVN.out k hlt
                  have HK : Hid (gs.length = k) := hk
                  have c0 := (HCK.out _ hG.si.frm).1 _ _ hvk
                  have HX : Hid (GJ w.heap.size wA wr wr vs X n gs Y u9 k (.slice ak (n k) ck) []) := GJ.start hG hvk
                  have hki : (k : Int) < 42 := by omega
                  generalize wr = ws at *
                  clear hG hvk hk hgl
                  go_wp2
                  go_loopw [11, 12] (fun gv jj wx => ∃ ys : List Value, ys.length ≤ 20 ∧ jj = .int .i64 (ys.length : Int) ∧ GJ w.heap.size wA ws wx vs X n gs Y u9 k gv ys) (fun _ jj _ => 20 - (intOf jj).toNat)
                  case atStart => exact ⟨[], by simp, rfl, HX.out⟩
                  case round =>
                    obtain ⟨ys, hyl, rfl, hW⟩ := hrel
                    clear HX c0
                    have hxl : (X k ++ ys).length = n k + ys.length := by rw [List.length_append, hW.gg.si.lens]
                    obtain ⟨ag, cg, eg, _⟩ := row_slice hW.own
                    rw [hxl] at eg
                    subst eg
                    obtain ⟨q, hq⟩ : ∃ q, ys.length = q := ⟨_, rfl⟩
                    rw [hq] at hyl hxl hW ⊢
                    have HQL : Hid (ys.length = q ∧ (X k ++ ys).length = n k + q) := ⟨hq, hxl⟩
                    clear hq hxl
                    by_cases hlq : q < 20
                    · have HY2 : Hid (∀ (o2 : Obj), GJ w.heap.size wA ws (wr.alloc o2) vs X n gs Y u9 k (.slice ag (n k + q) cg) ys ∧ w.heap.size ≤ (wr.alloc o2).heap.size) := fun o2 => by
                        have h1 := hW.kept (up0 _ o2)
                        exact ⟨h1, h1.gg.si.hB⟩
                      have HL5 : Hid ((X k ++ ys).length ≤ 5000000000) := by show _ ≤ _; rw [HQL.out.2]; omega
                      have HLX : Hid (∀ N, N = (X k ++ ys).length ∨ N = (X k).length + ys.length → (X k).length ≤ N) := fun N hN => by
                        have := @List.length_append _ (X k) ys
                        omega
                      have HR : Hid (∀ (z : Int) (o2 : Obj) (w' : World) (g' : Value) (N : Nat), z = ((100 + k : Nat) : Int) → RowIs w.heap.size 3 w' g' (X k ++ (ys ++ [.int .i64 z])) → (wr.alloc o2).grownBy w' (Value.slice ag (n k + q) cg).ownBlock → (g'.ownBlock = (Value.slice ag (n k + q) cg).ownBlock ∨ g'.ownBlock = some (wr.heap.size + 1)) → Views w.heap.size 3 (wr.alloc o2) w' N → (X k).length ≤ N → GJ w.heap.size wA ws w' vs X n gs Y u9 k g' (ys ++ [.int .i64 ((100 + k : Nat) : Int)]) ∧ (ys ++ [Value.int .i64 ((100 + k : Nat) : Int)]).length = q + 1) := fun z o2 w' g' N hz h1 h2 h3 h4 h5 => by
                        subst hz
                        exact ⟨(HY2.out o2).1.push (Nat.le_of_eq HK.out) h1 h2 (by rw [heap_one]; exact h3) h4 h5, by rw [List.length_append, HQL.out.1]; rfl⟩
                      clear hW
                      go_wp2_with (at_builtin; refine wpList_append_viewsI _ rfl (.tmp 112) (.tmp 115) 3 72 rfl w.heap.size hi8 Tryd.underlying72 _ (X k ++ ys) rfl (HY2.out _).1.own wr.heap.size (.int .i64 (100 + (k : Int))) rfl (World.cell?_alloc_new wr _ _ 0) rfl HL5.out (HY2.out _).2 ?_)
                      intro g' w' hr' hg' hat' hv'
                      have R : Hid (GJ w.heap.size wA ws w' vs X n gs Y u9 k g' (ys ++ [.int .i64 ((100 + k : Nat) : Int)]) ∧ (ys ++ [Value.int .i64 ((100 + k : Nat) : Int)]).length = q + 1) := HR.out _ _ _ _ _ (by omega) hr' hg' hat' hv' (HLX.out _ (by simp))
                      clear hr' hg' hat' hv' HY2 HR HL5 HLX
                      go_wp2
                      go_roundw
                      case rel => exact ⟨_, by rw [R.out.2]; omega, by rw [R.out.2]; go_num, R.out.1⟩
                      case measure => simp [intOf]; omega
                    · obtain rfl : q = 20 := by omega
                      rw [show ((20 : Nat) : Int) = (20 : Int) from rfl]
                      have HW3 : Hid (∀ o, GJ w.heap.size wA ws (wr.alloc o) vs X n gs Y u9 k (.slice ag (n k + 20) cg) ys ∧ wA.heap.size ≤ (wr.alloc o).heap.size) := fun o => by
                        have h1 := hW.kept (up0 _ o)
                        exact ⟨h1, h1.gg.si.frm.size⟩
                      have hgs6 : gs.length ≤ 5000000000 := by have := HK.out; omega
                      clear hW
                      go_wp2_with (at_builtin; refine wpList_append_lst _ rfl (.tmp 117) (.tmp 119) 71 rfl wA.heap.size h24 Tryd.underlying71 _ gs rfl (HW3.out _).1.gg.more wr.heap.size (.slice ag (n k + 20) cg) rfl (World.cell?_alloc_new wr _ _ 0) rfl hgs6 (HW3.out _).2 ?_)
                      intro m' w' hr' hg' hat'
                      have R : Hid (GI w.heap.size wA w' vs X n (gs ++ [.slice ag (n k + 20) cg]) (fun i => if i = k then X k ++ ys else Y i) m' ∧ (gs ++ [Value.slice ag (n k + 20) cg]).length = k + 1) := ⟨(HW3.out _).1.done HBA.out HK.out hlt HQL.out.1 (by
                        have h9 := hr'
                        unfold RowIs at h9
                        rw [List.length_append] at h9
                        exact h9) hg', by rw [List.length_append, HK.out]; rfl⟩
                      clear hr' hg' hat' HW3
                      go_wp2
                      go_roundw
                      case rel => exact ⟨_, _, by rw [R.out.2]; omega, by rw [R.out.2]; go_num, R.out.1⟩
                      case measure => simp [intOf]; omega
                · have h42g : gs.length = 42 := by omega
                  rw [h42g]
                  rw [show ((42 : Nat) : Int) = (42 : Int) from rfl]
                  obtain ⟨gM, cM, eM, hM1, hM2, hM3, hM4⟩ := row_cell hG.more (by omega)
                  rw [h42g] at eM hM1
                  unfold maxLen at hM2
                  subst eM
                  generalize wr = wD at *
                  have HG : Hid (∀ w', Below wD.heap.size wD w' → GI w.heap.size wA w' vs X n gs Y (.slice (some ⟨gM, 0, none⟩) 42 cM)) := fun w' hb => hG.kept hb
                  have H42 : Hid (gs.length = 42) := h42g
                  have HBW : Hid (∀ w', Below wD.heap.size wD w' → Below w.heap.size w w') := fun w' hb => HLI.out.2.1.trans (hG.kept hb).si.bel
                  have HWC : Hid (∀ w', Below wD.heap.size wD w' → ∀ (j : Nat) (c : Value), cs[j]? = some c → Fld.SlI w' c (F2 j)) := fun w' hb j c hc => by
                    have hf := (hG.kept hb).si.frm
                    have hL := HLI.out.1
                    have h8 := hL.weach j c hc
                    have h9 : Fld.RoI w.heap.size w' c (F2 j) := owns_block h8 fun g hg => hf.same g (World.ownsRow.lt h8 g hg).2 (fun d hd e => by
                      obtain ⟨i, hi⟩ := List.mem_iff_getElem?.1 hd
                      exact hL.cross i j d c hi hc g e hg)
                    exact h9.sl
                  have HCS2 : Hid (∀ j, j < 42 → ∃ a, ∃ c : Nat, cs[j]? = some (.slice a (F2 j).length c)) := fun j hj => by
                    have hj' : cs[j]? = some (cs[j]'(by have := HLI.out.2.2.2; omega)) := List.getElem?_eq_getElem _
                    obtain ⟨a, c, e, _⟩ := row_slice (HLI.out.1.weach j _ hj')
                    exact ⟨a, c, by rw [hj', e]⟩
                  clear hG hM3 hM4 h42g hgl hlt
                  go_wp2
                  go_loopw [13] (fun kk wr => ∃ k : Nat, k ≤ 42 ∧ kk = .int .i64 (k : Int) ∧ Below wD.heap.size wD wr) (fun kk _ => 42 - (intOf kk).toNat)
                  case atStart => exact ⟨0, Nat.zero_le _, rfl, Below.refl _ _⟩
                  case round =>
                    obtain ⟨k, hk, rfl, hbel⟩ := hrel
                    by_cases hlt : k < 42
                    · have e2 := quo2n k
                      have e6 := quo6n k
                      have e3 := rem3n (k / 2)
                      have HF2 : Hid (∀ w', Below w.heap.size w w' → Calls Tryd.prog 39 #[.int .i64 (1 + ((k / 2 % 3 : Nat) : Int)), .int .i64 (1 + ((k / 6 : Nat) : Int))] w' fun e w'' => ∃ (ao : Option Addr) (n c : Nat), e = .returned (.slice ao n c) ∧ n = (F2 k).length ∧ Fld.RoI w'.heap.size w'' (.slice ao n c) (F2 k) ∧ Below w'.heap.size w' w'') := fun w' hb => HFI.out w' k _ _ hb (by omega) (by omega)
                      obtain ⟨hl2, hl7⟩ := F2_len k hlt
                      have q2 : k / 2 % 3 < 3 := Nat.mod_lt _ (by decide)
                      have q6 : k / 6 < 7 := by omega
                      have q22 : k / 2 < 21 := by omega
                      have hki : (k : Int) < 42 := by omega
                      obtain ⟨a2, c2, hv2⟩ := HCS2.out k hlt
                      obtain ⟨ak, ck, hvk, hnk, hck1, hck2⟩ := HVN.out k hlt
                      have HVK : Hid (vs[k]? = some (.slice ak (n k) ck) ∧ cs[k]? = some (.slice a2 (F2 k).length c2)) := ⟨hvk, hv2⟩
                      generalize k / 2 % 3 = p3 at *
                      generalize k / 2 = p2 at *
                      generalize k / 6 = p6 at *
                      clear hvk hv2
                      go_wp2_with fail
                      refine (HF2.out _ (HBW.out _ hbel)).mono ?_
                      rintro e w1 ⟨af, nf, cf, rfl, hnf, hof, b1⟩
                      have B1 := andThen hbel b1
                      have hcv := (HCK.out _ (HG.out _ B1).si.frm).2 _ _ HVK.out.2
                      have HSA : Hid (Calls Tryd.prog 40 #[.slice af nf cf, .slice a2 (F2 k).length c2] w1 fun e w'' => e = .returned (.bool true) ∧ ∃ n, w'' = w1.drewN n) := HSI.out w1 _ _ (F2 k) hof.sl (HWC.out _ B1 k _ HVK.out.2) hl7
                      clear HF2 e2 e3 e6 hof b1 hbel hnf
                      generalize (F2 k).length = nc at *
                      go_wp2_with fail
                      refine HSA.out.mono ?_
                      rintro e w2 ⟨rfl, m2, rfl⟩
                      have B2 := bdrew B1 m2
                      obtain ⟨G, hGk⟩ : ∃ G, gs[k]? = some G := ⟨gs[k]'(by rw [H42.out]; exact hlt), List.getElem?_eq_getElem _⟩
                      have HGK : Hid (gs[k]? = some G) := hGk
                      have hv0 := ((HG.out _ (Below.refl _ _)).view k G hGk)
                      obtain ⟨gG, cG, yG, eG, hG1, hG2, _, _⟩ := row_get (i := 0) hv0.1 (by rw [hv0.2.1]; omega)
                      rw [hv0.2.1] at eG hG1
                      unfold maxLen at hG2
                      subst eG
                      have HCM : Hid (∀ w', Below wD.heap.size wD w' → w'.cell? ⟨gM, k, none⟩ = some (.slice (some ⟨gG, 0, none⟩) (n k + 20) cG) ∧ w'.cell? ⟨gL, k, none⟩ = some (.slice ak (n k) ck)) := fun w' hb => by
                        have hg := HG.out _ hb
                        refine ⟨?_, (HCK.out _ hg.si.frm).1 _ _ HVK.out.1⟩
                        have hr := hg.more
                        rw [H42.out] at hr
                        rw [World.ownsRow.cellAt hr k (by omega)]
                        exact HGK.out
                      have HCI : Hid (∀ w' i, Below wD.heap.size wD w' → i < n k + 20 → w'.cell? ⟨gG, i, none⟩ = some (.int .i64 (100 + (k : Int)))) := fun w' i hb hi => by
                        obtain ⟨h1, h2, h3⟩ := (HG.out _ hb).view k _ HGK.out
                        obtain ⟨g, c, x, e, _, _, hx, hc⟩ := row_get (i := i) h1 (by rw [h2]; exact hi)
                        simp only [Value.slice.injEq, Option.some.injEq, Addr.mk.injEq, and_true] at e
                        obtain ⟨rfl, _, rfl⟩ := e
                        have ho := h3 x (List.mem_of_getElem? hx)
                        rw [hc, ho]
                        congr 2
                      have HCX : Hid (∀ w' i, Below wD.heap.size wD w' → i < n k → ∃ g, ak = some ⟨g, 0, none⟩ ∧ w'.cell? ⟨g, i, none⟩ = some (.int .i64 (100 + (k : Int)))) := fun w' i hb hi => by
                        have hs := (HG.out _ hb).si
                        obtain ⟨g, c, x, e, _, _, hx, hc⟩ := row_get (i := i) (hs.base k _ HVK.out.1) (by rw [hs.lens]; exact hi)
                        simp only [Value.slice.injEq] at e
                        have ho := hs.mark k i x (.inl hlt) hx
                        exact ⟨g, e.1, by rw [hc, ho]; congr 2⟩
                      have HB0 : Hid (Below wD.heap.size wD (w1.drewN m2)) := B2
                      clear hv0 hGk B1 B2 HSA hcv
                      go_wp2
                      go_loopw [15] (fun ii wx => ∃ i : Nat, i ≤ n k + 20 ∧ ii = .int .i64 (i : Int) ∧ Below wD.heap.size wD wx) (fun ii _ => n k + 20 - (intOf ii).toNat)
                      case atStart => exact ⟨0, Nat.zero_le _, rfl, HB0.out⟩
                      case round =>
                        obtain ⟨i, hi, rfl, hbel⟩ := hrel
                        clear HB0
                        obtain ⟨m1, m2⟩ := HCM.out _ hbel
                        by_cases hli : i < n k + 20
                        · have y1 := HCI.out _ i hbel hli
                          by_cases hin2 : i < n k
                          · obtain ⟨gK, rfl, z1⟩ := HCX.out _ i hbel hin2
                            go_wp2
                            go_roundw
                            case rel => exact ⟨i + 1, by omega, by go_num, hbel⟩
                            case measure => simp [intOf]; omega
                          · go_wp2
                            go_roundw
                            case rel => exact ⟨i + 1, by omega, by go_num, hbel⟩
                            case measure => simp [intOf]; omega
                        · obtain rfl : i = n k + 20 := by omega
                          go_wp2
                          go_roundw
                          case rel => exact ⟨k + 1, by omega, by go_num, hbel⟩
                          case measure => simp [intOf]; omega
                    · obtain rfl : k = 42 := by omega
                      have HB1 : Hid (Below w.heap.size w wr) := HBW.out _ hbel
                      clear hbel
                      go_wp2
                      go_ret
                      exact ⟨rfl, HB1.out⟩
end Go.Proofs.YtebklbijpdphaaaDoor
