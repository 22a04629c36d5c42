/-
  LiftEmpty, LiftOwn: filled.
-/
import Derived.Test.YtppgijgmhjfdfaaDoorLo7
import Derived.Maps.AppendAt
namespace Go.Proofs.YtppgijgmhjfdfaaDoor
open Go Go.RowKit
open Wb

/-- at work on one row -/
structure Wk (B : Nat) (d : Value) (ws w : World) : Prop where
  fr : FrD d ws w
  bel : Below B ws w
  sz : B ≤ w.heap.size
theorem Wk.below {B : Nat} {d : Value} {ws w w' : World} (h : Wk B d ws w) (hb : Below w.heap.size w w') : Wk B d ws w' := ⟨h.fr.below hb, h.bel.trans (hb.mono h.sz), Nat.le_trans h.sz hb.size⟩
theorem Wk.grown {B : Nat} {d v : Value} {ws w w' : World} (h : Wk B d ws w) (hg : w.grownBy w' v.ownBlock) (hv : ∀ g, v.ownBlock = some g → d.ownBlock = some g ∨ ws.heap.size ≤ g) (hB : ∀ g, v.ownBlock = some g → B ≤ g) : Wk B d ws w' := ⟨h.fr.grown hg hv, h.bel.trans ((Below.refl B w).grown hg h.sz hB), Nat.le_trans h.sz hg.size⟩
theorem wpList_append_three {P : Program} (w : World) {ops : Array Oper} {rest : List Oper} {o : Oper} {a : Act} {Q : Exit → Act → World → Prop} (hgd : o.guard = none) (s x : Operand) (t : TypeId)
    (ho : o.op = .call { callee := .builtin .append, args := #[s, x], argTypes := #[t, t] })
    (B : Nat) (hinfo : (P.info? 25).map (fun i => (i.zero, i.size, i.bytes)) = some (some (.slice none 0 0), 1, 24)) (ht : P.underlying t = some (.slice 25))
    (v : Value) (n : Nat) (xs : List Value) (hv : a.eval s = v) (h : w.ownsRow B 25 1 v n xs) (x1 x2 x3 : Value) (g : Nat) (hx : a.eval x = .slice (some ⟨g, 0, none⟩) 3 3)
    (hc : w.rangeAt g 0 [x1, x2, x3]) (h1 : x1.oneCell' = true) (h2 : x2.oneCell' = true) (h3 : x3.oneCell' = true) (hmax : (n + 3) * 24 ≤ 140737488355328) (hB : B ≤ w.heap.size)
    (hK : ∀ v' w', w'.ownsRow B 25 1 v' (n + 3) (xs ++ [x1, x2, x3]) → w.grownBy w' v.ownBlock → (v'.ownBlock = v.ownBlock ∨ v'.ownBlock = some w.heap.size) → wpList P ops Q rest (a.put o.dst v') w') : wpList P ops Q (o :: rest) a w := by
  obtain ⟨i0, hi, hz0, hz1, hz2⟩ := Lft.info_parts3 hinfo
  refine wpList_append_own_at w hgd s x t ho B 25 i0 _ 1 24 ht hi hz0 hz1 hz2 rfl (by decide) v n xs hv h ⟨g, 0, none⟩ 3 3 [x1, x2, x3] hx rfl ?_ ?_ (by unfold maxLen; omega) (by omega) hB (fun v' w' a1 a2 _ a4 => hK v' w' a1 a2 a4)
  · intro j u hj
    have := hc j u hj
    rw [Addr.add_lit]
    exact this
  · intro u hu
    simp only [List.mem_cons, List.not_mem_nil, or_false] at hu
    rcases hu with rfl | rfl | rfl
    · exact h1
    · exact h2
    · exact h3
theorem mks_zero (n a t : Nat) : mks n a 0 t = List.replicate n a := by simp [mks]
/-- what filled leaves -/
def FPost (B : Nat) (w : World) (ds : List Value) (c : Nat → List Nat) (e : Ending) (w' : World) : Prop := ∃ vm fs, e = .returned vm ∧ fs.length = ds.length ∧ Fams B w' ds (fun i => (c i).length) fs ∧ w'.ownsRow w.heap.size 25 1 vm (3 * fs.length) (fs.flatMap vw) ∧ Frm ds w w' ∧ Below B w w'
set_option maxRecDepth 100000 in
set_option maxHeartbeats 8000000 in
theorem filled_any (B : Nat) (vl : Value) (ds : List Value) (c : Nat → List Nat) (w : World) (h : Lst B w vl ds c) (hN : ds.length ≤ 9000000) (hc : ∀ i, (c i).length ≤ 8388608) (hB : B ≤ w.heap.size) :
    Calls Tryd.prog 11 #[vl] w fun e w' => FPost B w ds c e w' := by
  have hin := info5
  have hib := infoBS
  obtain ⟨al, cl, rfl, hcl, hsl⟩ := h.shape
  unfold maxLen at hcl
  have HLOW : Hid (∀ g, (Value.slice al ds.length cl).ownBlock = some g → g < w.heap.size) := fun g hg => (World.ownsRow.lt h.row g hg).2
  have HH : Hid (Lst B w (.slice al ds.length cl) ds c) := h
  have HC : Hid (∀ i, (c i).length ≤ 8388608) := hc
  clear h hsl hc
  go_enter Tryd.func11, Tryd.ntmps11
  go_wp2
  go_loopw [3] (fun i wr => ∃ (k : Nat) (c' : Nat → List Nat), k ≤ ds.length ∧ i = .int .i64 (k : Int) ∧ Lst B wr (.slice al ds.length cl) ds c' ∧ (∀ i, (c' i).length = (c i).length) ∧ (∀ i, i < k → c' i = List.replicate (c i).length (mkA i)) ∧ Frm ds w wr ∧ Below B w wr) (fun i _ => ds.length - (intOf i).toNat)
  case atStart => exact ⟨0, c, Nat.zero_le _, rfl, HH.out, fun _ => rfl, fun i hi => absurd hi (Nat.not_lt_zero _), Frm.refl _ _, Below.refl _ _⟩
  case round =>
    obtain ⟨k, c', hk, rfl, hL, hcl', hcd, hF, hbel⟩ := hrel
    clear HH
    by_cases hlt : k < ds.length
    · obtain ⟨d, hd⟩ : ∃ d, ds[k]? = some d := ⟨ds[k], List.getElem?_eq_getElem hlt⟩
      have hnk := HC.out k
      obtain ⟨n, hn⟩ : ∃ n, (c k).length = n := ⟨_, rfl⟩
      rw [hn] at hnk
      have hck : (c' k).length = n := by rw [hcl' k, hn]
      have HX : Hid (Lst B wr (.slice al ds.length cl) ds c' ∧ (∀ i, (c' i).length = (c i).length) ∧ (∀ i, i < k → c' i = List.replicate (c i).length (mkA i)) ∧ Frm ds w wr ∧ Below B w wr ∧ (c k).length = n ∧ (c' k).length = n) := ⟨hL, hcl', hcd, hF, hbel, hn, hck⟩
      have HD : Hid (ds[k]? = some d) := hd
      obtain ⟨ad, cd, e5, _⟩ := (hL.each k d hd).bs.shape
      rw [hck] at e5
      subst e5
      have e5 := rem250 k
      have HA : Hid (1 + k % 250 = mkA k ∧ 1 + k % 250 < 256) := ⟨rfl, by omega⟩
      have hm5 : k % 250 < 250 := Nat.mod_lt _ (by decide)
      generalize k % 250 = mk5 at *
      clear hL hcl' hcd hF hbel hn hck hd
      go_wp2
      go_loopw [4] (fun i wr => ∃ (j : Nat) (c2 : Nat → List Nat), j ≤ n ∧ i = .int .i64 (j : Int) ∧ Lst B wr (.slice al ds.length cl) ds c2 ∧ (∀ i, (c2 i).length = (c i).length) ∧ (∀ i, i < k → c2 i = List.replicate (c i).length (mkA i)) ∧ (∀ p, p < j → (c2 k)[p]? = some (mkA k)) ∧ Frm ds w wr ∧ Below B w wr) (fun i _ => n - (intOf i).toNat)
      case atStart => exact ⟨0, c', Nat.zero_le _, rfl, HX.out.1, HX.out.2.1, HX.out.2.2.1, fun p hp => absurd hp (Nat.not_lt_zero _), HX.out.2.2.2.1, HX.out.2.2.2.2.1⟩
      case round =>
        obtain ⟨j, c2, hj, rfl, hL, hcl', hcd, hcp, hF, hbel⟩ := hrel
        obtain ⟨al', cl', e', _, hsl⟩ := hL.shape
        simp only [Value.slice.injEq] at e'
        obtain ⟨rfl, _, rfl⟩ := e'
        obtain ⟨gl, rfl, cgl⟩ := hsl k hlt
        rw [HD.out] at cgl
        have hc2 : (c2 k).length = n := by rw [hcl' k]; exact HX.out.2.2.2.2.2.1
        by_cases hlj : j < n
        · have how := hL.each k _ HD.out
          rcases how.shape with ⟨_, h0⟩ | ⟨gd, cd', e7, hgd, _, hlc, hcm, hcell⟩
          · rw [h0] at hc2
            simp at hc2
            omega
          · rw [hc2] at e7
            simp only [Value.slice.injEq] at e7
            obtain ⟨rfl, _, rfl⟩ := e7
            unfold maxLen at hcm
            have cj := hcell j (by omega)
            have fj : wr.frozen? ⟨gd, j, none⟩ = false := by
              have hrw := how.row
              rw [hc2] at hrw
              exact World.ownsRow.frozenAt hrw _
            have R : Hid (Lst B (wr.setCell ⟨gd, j, none⟩ (.int .u8 (1 + (mk5 : Int)))) (.slice (some ⟨gl, 0, none⟩) ds.length cl) ds (fun i => if i = k then (c2 k).set j (1 + mk5) else c2 i) ∧ (∀ i, (if i = k then (c2 k).set j (1 + mk5) else c2 i).length = (c i).length) ∧ (∀ i, i < k → (if i = k then (c2 k).set j (1 + mk5) else c2 i) = List.replicate (c i).length (mkA i)) ∧ (∀ p, p < j + 1 → (if k = k then (c2 k).set j (1 + mk5) else c2 k)[p]? = some (mkA k)) ∧ Frm ds w (wr.setCell ⟨gd, j, none⟩ (.int .u8 (1 + (mk5 : Int)))) ∧ Below B w (wr.setCell ⟨gd, j, none⟩ (.int .u8 (1 + (mk5 : Int))))) := by
              have hdk : ds[k]? = some (.slice (some ⟨gd, 0, none⟩) (c2 k).length cd) := by rw [hc2]; exact HD.out
              refine ⟨hL.put k gd cd hdk j (1 + mk5) (by omega) HA.out.2, fun i => ?_, fun i hi => ?_, fun p hp => ?_, ⟨?_, fun g hg hne => ?_⟩, Below.setCell hbel (show B ≤ gd from hgd) _⟩
              · split
                · rename_i e; rw [e, List.length_set]; exact hcl' k
                · exact hcl' i
              · rw [if_neg (by omega)]; exact hcd i hi
              · rw [if_pos rfl, List.getElem?_set]
                by_cases hpj : j = p
                · rw [if_pos hpj, if_pos (by omega), HA.out.1]
                · rw [if_neg hpj]; exact hcp p (by omega)
              · show w.heap.size ≤ (wr.heap.modify _ _).size
                rw [Array.size_modify]
                exact hF.size
              · rw [set_other wr _ _ g (fun e => hne _ (List.mem_of_getElem? HD.out) (by rw [e]; rfl))]
                exact hF.same g hg hne
            clear hL hcl' hcd hcp hF hbel how hcell hsl HX
            generalize (c2 k)[j] = cold at *
            go_wp2
            go_roundw
            case rel => exact ⟨j + 1, _, by omega, by go_num, R.out.1, R.out.2.1, R.out.2.2.1, R.out.2.2.2.1, R.out.2.2.2.2.1, R.out.2.2.2.2.2⟩
            case measure => simp [intOf]; omega
        · obtain rfl : j = n := by omega
          have R : Hid (Lst B wr (.slice (some ⟨gl, 0, none⟩) ds.length cl) ds c2 ∧ (∀ i, (c2 i).length = (c i).length) ∧ (∀ i, i < k + 1 → c2 i = List.replicate (c i).length (mkA i)) ∧ Frm ds w wr ∧ Below B w wr) := by
            refine ⟨hL, hcl', fun i hi => ?_, hF, hbel⟩
            by_cases hik : i < k
            · exact hcd i hik
            · obtain rfl : i = k := by omega
              refine List.ext_getElem? fun p => ?_
              rw [List.getElem?_replicate]
              by_cases hp : p < j
              · rw [hcp p hp, if_pos (by rw [HX.out.2.2.2.2.2.1]; exact hp)]
              · rw [List.getElem?_eq_none (by omega), if_neg (by rw [HX.out.2.2.2.2.2.1]; exact hp)]
          clear hL hcl' hcd hcp hF hbel hsl HX
          go_wp2
          go_roundw
          case rel => exact ⟨k + 1, c2, by omega, by go_num, R.out.1, R.out.2.1, R.out.2.2.1, R.out.2.2.2.1, R.out.2.2.2.2⟩
          case measure => simp [intOf]; omega
    · obtain rfl : k = ds.length := by omega
      obtain ⟨nf, hnf⟩ : ∃ nf : Nat → Nat, nf = fun i => (c i).length := ⟨_, rfl⟩
      have HNF : Hid (nf = fun i => (c i).length) := hnf
      have HN : Hid (∀ i, nf i ≤ 8388608) := fun i => by rw [hnf]; exact HC.out i
      have HP : Hid (Ph2 B w wr (.slice al ds.length cl) ds nf (.slice none 0 0) []) := by
        refine ⟨⟨fun i d hd => ?_, fun i x hx => by simp at hx⟩, hL.apart, hL.rowap, (fun i x hx => by simp at hx), (fun g hg => nomatch hg), World.ownsRow_nil _ _ _ _, hL.row, HLOW.out, hF, hbel, hB⟩
        have hi : i < ds.length := (List.getElem?_eq_some_iff.1 hd).1
        have ho := hL.each i d hd
        rw [hcd i hi] at ho
        rw [mks_zero, hnf]
        exact ho
      clear hL hcl' hcd hF hbel hk HC HLOW hnf hlt
      go_wp2
      go_loopw [5, 6] (fun vm i wr => ∃ fs : List (Value × Value × Value), fs.length ≤ ds.length ∧ i = .int .i64 (fs.length : Int) ∧ Ph2 B w wr (.slice al ds.length cl) ds nf vm fs) (fun _ i _ => ds.length - (intOf i).toNat)
      case atStart => exact ⟨[], Nat.zero_le _, rfl, HP.out⟩
      case round =>
        obtain ⟨fs, hk, rfl, hP⟩ := hrel
        clear HP
        generalize wr = ws at *
        by_cases hlt : fs.length < ds.length
        · obtain ⟨d, hd⟩ : ∃ d, ds[fs.length]? = some d := ⟨ds[fs.length], List.getElem?_eq_getElem hlt⟩
          have HD : Hid (ds[fs.length]? = some d) := hd
          have hdm : d ∈ ds := List.mem_of_getElem? hd
          have hnk := HN.out fs.length
          obtain ⟨k, hkk⟩ : ∃ k, fs.length = k := ⟨_, rfl⟩
          obtain ⟨m, hm⟩ : ∃ m, nf k = m := ⟨_, rfl⟩
          rw [hkk] at hlt hk hnk ⊢
          rw [hm] at hnk
          have how : Own B ws d (mks m (mkA k) 0 (mkT k)) := by
            have := hP.fam.base _ d hd
            rw [hkk, hm] at this
            exact this
          obtain ⟨ad, cd, e5, _⟩ := how.bs.shape
          rw [mks_len, Nat.add_zero] at e5
          subst e5
          have hrow := hP.row
          obtain ⟨gl, rfl, cgl⟩ : ∃ gl, al = some ⟨gl, 0, none⟩ ∧ ws.cell? ⟨gl, k, none⟩ = some (.slice ad m cd) := by
            rcases hrow.2 with ⟨_, h1⟩ | ⟨g, cap, cur, e, _⟩
            · omega
            · simp only [Value.slice.injEq] at e
              obtain ⟨rfl, _, rfl⟩ := e
              refine ⟨g, rfl, ?_⟩
              rw [World.ownsRow.cellAt hrow k (by omega), ← hkk]
              exact hd
          have HCK : Hid (∀ w', FrD (.slice ad m cd) ws w' → w'.cell? ⟨gl, k, none⟩ = some (.slice ad m cd)) := fun w' hf => by
            rw [← cgl]
            exact World.cell?_of_block (hf.same gl (by have := hP.low gl rfl; have := hP.frm.size; omega) (hP.rowap _ hdm gl rfl))
          have HW0 : Hid (∀ w', Below ws.heap.size ws w' → Wk B (.slice ad m cd) ws w' ∧ Own B w' (.slice ad m cd) (mks m (mkA k) 0 (mkT k))) := fun w' hb => ⟨⟨⟨hb.size, fun g hg _ => hb.block g hg⟩, hb.mono (by have := hP.frm.size; have := hP.hB; omega), by have := hP.frm.size; have := hP.hB; have := hb.size; omega⟩, how.kept hb⟩
          have HDB : Hid (∀ g, (Value.slice ad m cd).ownBlock = some g → B ≤ g) := fun g hg => (World.ownsRow.lt how.row g hg).1
          have HP : Hid (Ph2 B w ws (.slice (some ⟨gl, 0, none⟩) ds.length cl) ds nf u5 fs ∧ fs.length = k ∧ nf k = m) := ⟨hP, hkk, hm⟩
          have HTL : Hid (∀ (q : Nat) w', q ≤ 1000 → Calls Tryd.prog 26 #[.int .i64 (k : Int), .int .i64 (q : Int)] w' fun e w'' => ∃ at1, ∃ ct1 : Nat, e = .returned (.slice at1 q ct1) ∧ Bs w'' (.slice at1 q ct1) (List.replicate q (mkT k)) ∧ Below w'.heap.size w' w'') := fun q w' hq => (tail_any k q w' (by omega) hq).mono fun e w'' ⟨v', he, ho, hb⟩ => by
            obtain ⟨at1, ct1, e9, _⟩ := ho.bs.shape
            rw [List.length_replicate] at e9
            subst e9
            exact ⟨at1, ct1, he, ho.bs, hb⟩
          have cg0 := cgl
          clear hP how hrow hdm hd cgl hm
          obtain ⟨A, hA⟩ : ∃ A, mkA k = A := ⟨_, rfl⟩
          obtain ⟨T, hT⟩ : ∃ T, mkT k = T := ⟨_, rfl⟩
          have HE : Hid (mkA k = A ∧ mkT k = T) := ⟨hA, hT⟩
          rw [hA, hT] at HW0
          rw [hT] at HTL
          clear hA hT
          go_wp2
          go_region_held_law (fun w' => w'.cell? ⟨gl, k, none⟩ = some (.slice ad m cd)) (first | go_keep | (exact HCK.out _ k2.fr) | (exact HCK.out _ k1.fr))
            (first
              | (go_at_call 26; refine (HTL.out 1 _ (by decide)).mono ?_; rintro e w1 ⟨at1, ct1, rfl, ht1, hb1⟩; have k1 := (HW0.out _ (andThen (Below.drew (Below.refl _ _)) hb1)).1; have d1 := (HW0.out _ (andThen (Below.drew (Below.refl _ _)) hb1)).2)
              | (refine step_append_marks rfl (some 48) rfl (.tmp 45) (.tmp 47) 25 rfl B hin Tryd.underlying25 (.slice ad m cd) m A 0 T 1 (by simp [Act.eval]) d1 (.slice at1 1 ct1) (by simp [Act.eval]) ht1 (by decide) (by omega) k1.sz ?_; intro g1 w2 o1 hg1 hat1 hkp1; have k2 := k1.grown hg1 (fun g e => .inl e) HDB.out))
          have d2 := hkp1 _ 0 d1
          have c1 : ∀ g, g1.ownBlock = some g → (Value.slice ad m cd).ownBlock = some g ∨ ws.heap.size ≤ g := fun g hg => by
            rcases hat1 with e | e
            · exact .inl (e ▸ hg)
            · rw [e] at hg
              have h9 := Option.some.inj hg
              have := k1.fr.size
              exact .inr (by omega)
          obtain ⟨ag1, cg1, e9, _⟩ := o1.bs.shape
          rw [mks_len, Nat.zero_add] at e9
          subst e9
          have HS2 : Hid (Own B w2 (.slice ag1 (m + 1) cg1) (mks m A 1 T) ∧ Own B w2 (.slice ad m cd) (mks m A 0 T) ∧ Wk B (.slice ad m cd) ws w2) := ⟨o1, d2, k2⟩
          have HC1 : Hid (∀ g, (Value.slice ag1 (m + 1) cg1).ownBlock = some g → (Value.slice ad m cd).ownBlock = some g ∨ ws.heap.size ≤ g) := c1
          have cg2 := HCK.out _ k2.fr
          clear o1 d2 k2 c1 hat1 hkp1 hg1 d1 k1 ht1 hb1 cg0 HW0
          go_wp2
          go_region_held_law (fun w' => w'.cell? ⟨gl, k, none⟩ = some (.slice ad m cd)) (first | go_keep | (exact HCK.out _ k4.fr) | (exact HCK.out _ k3.fr))
            (first
              | (go_at_call 26; refine (HTL.out 2 _ (by decide)).mono ?_; rintro e w3 ⟨at3, ct3, rfl, ht3, hb3⟩; have k3 := HS2.out.2.2.below (andThen (Below.drew (Below.refl _ _)) hb3); have d3 := HS2.out.2.1.kept (andThen (Below.drew (Below.refl _ _)) hb3); have p3 := HS2.out.1.kept (andThen (Below.drew (Below.refl _ _)) hb3))
              | (refine step_append_marks rfl (some 55) rfl (.tmp 52) (.tmp 54) 25 rfl B hin Tryd.underlying25 (.slice ad m cd) m A 0 T 2 (by simp [Act.eval]) d3 (.slice at3 2 ct3) (by simp [Act.eval]) ht3 (by decide) (by omega) k3.sz ?_; intro g2 w4 o2 hg2 hat2 hkp2; have k4 := k3.grown hg2 (fun g e => .inl e) HDB.out))
          have c2 : ∀ g, g2.ownBlock = some g → (Value.slice ad m cd).ownBlock = some g ∨ ws.heap.size ≤ g := fun g hg => by
            rcases hat2 with e | e
            · exact .inl (e ▸ hg)
            · rw [e] at hg
              have h9 := Option.some.inj hg
              have := k3.fr.size
              exact .inr (by omega)
          obtain ⟨ag2, cg2', e9, _⟩ := o2.bs.shape
          rw [mks_len, Nat.zero_add] at e9
          subst e9
          have HS4 : Hid (Own B w4 (.slice ag2 (m + 2) cg2') (mks m A 2 T) ∧ Own B w4 (.slice ag1 (m + 1) cg1) (mks m A 1 T) ∧ Own B w4 (.slice ad m cd) (mks m A 0 T) ∧ Wk B (.slice ad m cd) ws w4) := ⟨o2, hkp2 _ 1 p3, hkp2 _ 0 d3, k4⟩
          have HC2 : Hid (∀ g, (Value.slice ag2 (m + 2) cg2').ownBlock = some g → (Value.slice ad m cd).ownBlock = some g ∨ ws.heap.size ≤ g) := c2
          have cg4 := HCK.out _ k4.fr
          clear o2 k4 c2 hat2 hkp2 hg2 d3 p3 k3 ht3 hb3 cg2 HS2 HCK
          go_wp2
          go_loopw [9, 10] (fun g3 i wx => ∃ q : Nat, q ≤ 70 ∧ i = .int .i64 (q : Int) ∧ Own B wx g3 (mks m A q T) ∧ Own B wx (.slice ag2 (m + 2) cg2') (mks m A 2 T) ∧ Own B wx (.slice ag1 (m + 1) cg1) (mks m A 1 T) ∧ Own B wx (.slice ad m cd) (mks m A 0 T) ∧ Wk B (.slice ad m cd) ws wx ∧ ∀ g, g3.ownBlock = some g → (Value.slice ad m cd).ownBlock = some g ∨ ws.heap.size ≤ g) (fun _ i _ => 70 - (intOf i).toNat)
          case atStart => exact ⟨0, Nat.zero_le _, rfl, HS4.out.2.2.1, HS4.out.1, HS4.out.2.1, HS4.out.2.2.1, HS4.out.2.2.2, fun g e => .inl e⟩
          case round =>
            obtain ⟨q, hq, rfl, o3, o2, o1, o0, hwk, hc3⟩ := hrel
            clear cg4 HS4
            by_cases hlq : q < 70
            · obtain ⟨a3, c3, e9, _⟩ := o3.bs.shape
              rw [mks_len] at e9
              subst e9
              have HX : Hid (Own B wr (.slice a3 (m + q) c3) (mks m A q T) ∧ Own B wr (.slice ag2 (m + 2) cg2') (mks m A 2 T) ∧ Own B wr (.slice ag1 (m + 1) cg1) (mks m A 1 T) ∧ Own B wr (.slice ad m cd) (mks m A 0 T) ∧ Wk B (.slice ad m cd) ws wr ∧ ∀ g, (Value.slice a3 (m + q) c3).ownBlock = some g → (Value.slice ad m cd).ownBlock = some g ∨ ws.heap.size ≤ g) := ⟨o3, o2, o1, o0, hwk, hc3⟩
              clear o3 o2 o1 o0 hwk hc3
              go_wp2_with fail
              refine (HTL.out 1 _ (by decide)).mono ?_
              rintro e w5 ⟨at5, ct5, rfl, ht5, hb5⟩
              have HY : Hid (Own B w5 (.slice a3 (m + q) c3) (mks m A q T) ∧ Own B w5 (.slice ag2 (m + 2) cg2') (mks m A 2 T) ∧ Own B w5 (.slice ag1 (m + 1) cg1) (mks m A 1 T) ∧ Own B w5 (.slice ad m cd) (mks m A 0 T) ∧ Wk B (.slice ad m cd) ws w5 ∧ Bs w5 (.slice at5 1 ct5) (List.replicate 1 T)) := ⟨HX.out.1.kept hb5, HX.out.2.1.kept hb5, HX.out.2.2.1.kept hb5, HX.out.2.2.2.1.kept hb5, HX.out.2.2.2.2.1.below hb5, ht5⟩
              clear ht5 hb5
              go_wp2_with (at_builtin; refine wpList_append_marks _ rfl (.tmp 64) (.tmp 66) 25 rfl B hin Tryd.underlying25 _ m A q T 1 rfl HY.out.1 _ rfl HY.out.2.2.2.2.2 (by decide) (by omega) HY.out.2.2.2.2.1.sz ?_)
              intro g3 w6 o3 hg3 hat3 hkp3
              have R : Hid (Own B w6 g3 (mks m A (q + 1) T) ∧ Own B w6 (.slice ag2 (m + 2) cg2') (mks m A 2 T) ∧ Own B w6 (.slice ag1 (m + 1) cg1) (mks m A 1 T) ∧ Own B w6 (.slice ad m cd) (mks m A 0 T) ∧ Wk B (.slice ad m cd) ws w6 ∧ ∀ g, g3.ownBlock = some g → (Value.slice ad m cd).ownBlock = some g ∨ ws.heap.size ≤ g) := by
                refine ⟨o3, hkp3 _ 2 HY.out.2.1, hkp3 _ 1 HY.out.2.2.1, hkp3 _ 0 HY.out.2.2.2.1, HY.out.2.2.2.2.1.grown hg3 HX.out.2.2.2.2.2 (fun g hg => (World.ownsRow.lt HY.out.1.row g hg).1), fun g hg => ?_⟩
                rcases hat3 with e | e
                · exact HX.out.2.2.2.2.2 g (e ▸ hg)
                · rw [e] at hg
                  have h9 := Option.some.inj hg
                  have := HY.out.2.2.2.2.1.fr.size
                  exact .inr (by omega)
              clear o3 hg3 hat3 hkp3 HX HY
              go_wp2
              go_roundw
              case rel => exact ⟨q + 1, by omega, by go_num, R.out.1, R.out.2.1, R.out.2.2.1, R.out.2.2.2.1, R.out.2.2.2.2.1, R.out.2.2.2.2.2⟩
              case measure => simp [intOf]; omega
            · obtain rfl : q = 70 := by omega
              obtain ⟨a3, c3, e9, _⟩ := o3.bs.shape
              rw [mks_len] at e9
              subst e9
              have HM : Hid (∀ o, (wr.alloc o).ownsRow w.heap.size 25 1 u5 (3 * k) (fs.flatMap vw) ∧ w.heap.size ≤ (wr.alloc o).heap.size) := fun o => by
                have hP := HP.out.1
                have hmo := hP.more
                rw [HP.out.2.1] at hmo
                refine ⟨owns_kept (owns_block hmo fun g hg => hwk.fr.same g (World.ownsRow.lt hmo g hg).2 ((hP.mr g hg).1 _ (List.mem_of_getElem? HD.out))) (up0 _ _), ?_⟩
                have h1 := hP.frm.size
                have h2 := hwk.fr.size
                have h3 := (up0 wr o).size
                omega
              have HX : Hid (∀ o, Own B (wr.alloc o) (.slice a3 (m + 70) c3) (mks m A 70 T) ∧ Own B (wr.alloc o) (.slice ag2 (m + 2) cg2') (mks m A 2 T) ∧ Own B (wr.alloc o) (.slice ag1 (m + 1) cg1) (mks m A 1 T) ∧ Own B (wr.alloc o) (.slice ad m cd) (mks m A 0 T) ∧ Wk B (.slice ad m cd) ws (wr.alloc o)) := fun o => ⟨o3.alloc o, o2.alloc o, o1.alloc o, o0.alloc o, hwk.below (up0 _ _)⟩
              have HC3 : Hid (∀ g, (Value.slice a3 (m + 70) c3).ownBlock = some g → (Value.slice ad m cd).ownBlock = some g ∨ ws.heap.size ≤ g) := hc3
              have HR3 : Hid ((wr.alloc (.cells #[.slice ag1 (m + 1) cg1, .slice ag2 (m + 2) cg2', .slice a3 (m + 70) c3] 25)).rangeAt wr.heap.size 0 [.slice ag1 (m + 1) cg1, .slice ag2 (m + 2) cg2', .slice a3 (m + 70) c3]) := by
                have h : (wr.alloc (.cells #[.slice ag1 (m + 1) cg1, .slice ag2 (m + 2) cg2', .slice a3 (m + 70) c3] 25)).heap[wr.heap.size]? = some (.cells #[.slice ag1 (m + 1) cg1, .slice ag2 (m + 2) cg2', .slice a3 (m + 70) c3] 25) := heap_new _ _
                exact World.rangeAt_of_block h 0 3
              clear o3 o2 o1 o0 hwk hc3 hq hlq
              go_wp2_with (at_builtin; refine wpList_append_three _ rfl (.tmp 68) (.tmp 72) 23 rfl w.heap.size hib Tryd.underlying23 _ (3 * k) (fs.flatMap vw) rfl (HM.out _).1 (.slice ag1 (m + 1) cg1) (.slice ag2 (m + 2) cg2') (.slice a3 (m + 70) c3) _ rfl HR3.out rfl rfl rfl (by omega) (HM.out _).2 ?_)
              intro v7 w7 hr7 hg7 he7
              have R : Hid (Ph2 B w w7 (.slice (some ⟨gl, 0, none⟩) ds.length cl) ds nf v7 (fs ++ [(.slice ag1 (m + 1) cg1, .slice ag2 (m + 2) cg2', .slice a3 (m + 70) c3)])) := by
                obtain ⟨hP, hkk, hm⟩ := HP.out
                refine hP.step HD.out (HX.out _).2.2.2.2.fr (HX.out _).2.2.2.2.bel ?_ ?_ ?_ ?_ (fun s hs g hg => ?_) ?_ hg7 (by rw [heap_one]; exact he7)
                · rw [hkk, hm]; exact (by rw [HE.out.1, HE.out.2]; exact (HX.out _).2.2.2.1)
                · rw [hkk, hm]; exact (by rw [HE.out.1, HE.out.2]; exact (HX.out _).2.2.1)
                · rw [hkk, hm]; exact (by rw [HE.out.1, HE.out.2]; exact (HX.out _).2.1)
                · rw [hkk, hm]; exact (by rw [HE.out.1, HE.out.2]; exact (HX.out _).1)
                · simp only [vw, List.mem_cons, List.not_mem_nil, or_false] at hs
                  rcases hs with rfl | rfl | rfl
                  · exact HC1.out g hg
                  · exact HC2.out g hg
                  · exact HC3.out g hg
                · rw [hkk]; exact hr7
              have hkl : (fs ++ [(Value.slice ag1 (m + 1) cg1, Value.slice ag2 (m + 2) cg2', Value.slice a3 (m + 70) c3)]).length = k + 1 := by rw [List.length_append, HP.out.2.1]; rfl
              clear hr7 hg7 he7 HM HX HC1 HC2 HC3 HR3 HTL HDB
              go_wp2
              go_roundw
              case rel => exact ⟨_, by rw [hkl]; omega, by rw [hkl]; go_num, R.out⟩
              case measure => simp [intOf]; omega
        · have hfl : fs.length = ds.length := by omega
          rw [hfl]
          have R : Hid (FPost B w ds c (.returned u5) ws) := ⟨u5, fs, rfl, hfl, by have := hP.fam; rw [HNF.out] at this; exact this, hP.more, hP.frm, hP.bel⟩
          clear hP
          go_wp2
          go_ret
          exact R.out
end Go.Proofs.YtppgijgmhjfdfaaDoor
