import Derived.Test.YtebklbijpdphaaaDoorQO8
import Derived.Test.YtebklbijpdphaaaDoorQU3
/-
  RecordOwn, RecordAgain: filled.
-/
namespace Go.Proofs.YtebklbijpdphaaaDoor
open Go Go.RowKit
open Wb

/-- the marks stand -/
structure FamR (B : Nat) (w : World) (ds : List Value) (n : Nat → Nat) (fs : List Value) : Prop where
  base : ∀ (i : Nat) (d : Value), ds[i]? = some d → Own B w d (mks (n i) (mkA i) 0 (mkA i))
  view : ∀ (i : Nat) (x : Value), fs[i]? = some x → Own B w x (mks (n i) (mkA i) (n i + 70) (mkA i))
theorem FamR.kept {B : Nat} {w w' : World} {ds : List Value} {n : Nat → Nat} {fs : List Value} (h : FamR B w ds n fs) (hb : Below w.heap.size w w') : FamR B w' ds n fs := ⟨fun i d hd => (h.base i d hd).kept hb, fun i x hx => (h.view i x hx).kept hb⟩
structure Ph3 (B : Nat) (w0 w : World) (vl : Value) (ds : List Value) (n : Nat → Nat) (vm : Value) (fs : List Value) : Prop where
  fam : FamR B w ds n fs
  apart : ∀ (i j : Nat) (d e : Value), ds[i]? = some d → ds[j]? = some e → i ≠ j → ∀ g, d.ownBlock = some g → e.ownBlock ≠ some g
  rowap : ∀ d ∈ ds, ∀ g, vl.ownBlock = some g → d.ownBlock ≠ some g
  ap : ∀ (i : Nat) (x : Value), fs[i]? = some x → ∀ (j : Nat) (d : Value), ds[j]? = some d → i ≠ j → ∀ g, x.ownBlock = some g → d.ownBlock ≠ some g
  mr : ∀ g, vm.ownBlock = some g → (∀ d ∈ ds, d.ownBlock ≠ some g) ∧ ∀ x ∈ fs, x.ownBlock ≠ some g
  more : w.ownsRow w0.heap.size 25 1 vm fs.length fs
  row : w.ownsRow 0 25 1 vl ds.length ds
  low : ∀ g, vl.ownBlock = some g → g < w0.heap.size
  frm : Frm ds w0 w
  bel : Below B w0 w
  hB : B ≤ w0.heap.size
theorem Ph3.step {B : Nat} {w0 ws w' w'' : World} {vl : Value} {ds : List Value} {n : Nat → Nat} {vm vm' : Value} {fs : List Value} (h : Ph3 B w0 ws vl ds n vm fs) {d g1 : Value} (hk : ds[fs.length]? = some d) (hfr : FrD d ws w') (hb : Below B ws w')
    (o0 : Own B w' d (mks (n fs.length) (mkA fs.length) 0 (mkA fs.length))) (o1 : Own B w' g1 (mks (n fs.length) (mkA fs.length) (n fs.length + 70) (mkA fs.length)))
    (hbl : ∀ g, g1.ownBlock = some g → d.ownBlock = some g ∨ ws.heap.size ≤ g)
    (hm : w''.ownsRow w0.heap.size 25 1 vm' (fs.length + 1) (fs ++ [g1])) (hg : w'.grownBy w'' vm.ownBlock) (hat : vm'.ownBlock = vm.ownBlock ∨ vm'.ownBlock = some w'.heap.size) : Ph3 B w0 w'' vl ds n vm' (fs ++ [g1]) := by
  have hdm : d ∈ ds := List.mem_of_getElem? hk
  have hvm : ∀ g, vm.ownBlock = some g → w0.heap.size ≤ g ∧ g < ws.heap.size := fun g hg => World.ownsRow.lt h.more g hg
  have keepM : ∀ u l, Own B w' u l → (∀ g, vm.ownBlock = some g → u.ownBlock ≠ some g) → Own B w'' u l := fun u l hu hne => own_kept2 hu fun g hg' => hg.block g (World.ownsRow.lt hu.row g hg').2 fun e => hne g e.symm hg'
  have keepD : ∀ u l, Own B ws u l → (∀ g, d.ownBlock = some g → u.ownBlock ≠ some g) → Own B w' u l := fun u l hu hne => own_kept2 hu fun g hg' => hfr.same g (World.ownsRow.lt hu.row g hg').2 fun e => hne g e hg'
  have hnv : ∀ g, vm.ownBlock = some g → g1.ownBlock ≠ some g := fun g hv e => by
    rcases hbl g e with e1 | e1
    · exact (h.mr g hv).1 d hdm e1
    · have := (hvm g hv).2
      omega
  have hcase : ∀ (i : Nat) (x : Value), (fs ++ [g1])[i]? = some x → fs[i]? = some x ∨ (i = fs.length ∧ x = g1) := fun i x hi => by
    by_cases hlt : i < fs.length
    · rw [List.getElem?_append_left hlt] at hi
      exact .inl hi
    · rw [List.getElem?_append_right (by omega)] at hi
      have h0 : i - fs.length = 0 := by
        have := (List.getElem?_eq_some_iff.1 hi).1
        simp at this
        omega
      rw [h0] at hi
      exact .inr ⟨by omega, by simpa using hi.symm⟩
  have hfl : ∀ (i : Nat) (x : Value), fs[i]? = some x → i ≠ fs.length := fun i x hx e => by have := (List.getElem?_eq_some_iff.1 hx).1; omega
  have oldV : ∀ (i : Nat) (x : Value), fs[i]? = some x → ∀ l, Own B ws x l → Own B w'' x l := fun i x hx l ho => keepM x l (keepD x l ho (fun g hd e => h.ap i x hx fs.length d hk (hfl i x hx) g e hd)) (fun g hv => (h.mr g hv).2 x (List.mem_of_getElem? hx))
  refine ⟨⟨fun i e hi => ?_, fun i x hi => ?_⟩, h.apart, h.rowap, fun i x hi j e hj hij g hg' => ?_, fun g hv => ?_, ?_, ?_, h.low, ⟨?_, fun g hlt hne => ?_⟩, ?_, h.hB⟩
  · by_cases hik : i = fs.length
    · subst hik
      obtain rfl : d = e := Option.some.inj (hk.symm.trans hi)
      exact keepM _ _ o0 (fun g hv => (h.mr g hv).1 _ hdm)
    · exact keepM _ _ (keepD _ _ (h.fam.base i e hi) (fun g hd => h.apart fs.length i d e hk hi (Ne.symm hik) g hd)) (fun g hv => (h.mr g hv).1 e (List.mem_of_getElem? hi))
  · rcases hcase i x hi with hx | ⟨rfl, rfl⟩
    · exact oldV i x hx _ (h.fam.view i x hx)
    · exact keepM _ _ o1 hnv
  · rcases hcase i x hi with hx | ⟨rfl, rfl⟩
    · exact h.ap i x hx j e hj hij g hg'
    · intro he
      rcases hbl g hg' with e1 | e1
      · exact h.apart fs.length j d e hk hj hij g e1 he
      · have := (World.ownsRow.lt (h.fam.base j e hj).row g he).2
        omega
  · rcases hat with e | e
    · rw [e] at hv
      refine ⟨(h.mr g hv).1, fun x hx => ?_⟩
      rcases List.mem_append.1 hx with hx | hx
      · exact (h.mr g hv).2 x hx
      · obtain rfl := List.mem_singleton.1 hx
        exact hnv g hv
    · rw [e] at hv
      have hgw : w'.heap.size = g := Option.some.inj hv
      have hsw := hfr.size
      refine ⟨fun e1 he1 e2 => ?_, fun x hx e2 => ?_⟩
      · obtain ⟨i, hi⟩ := List.mem_iff_getElem?.1 he1
        have := (World.ownsRow.lt (h.fam.base i e1 hi).row g e2).2
        omega
      · rcases List.mem_append.1 hx with hx | hx
        · obtain ⟨i, hi⟩ := List.mem_iff_getElem?.1 hx
          have := (World.ownsRow.lt (h.fam.view i x hi).row g e2).2
          omega
        · obtain rfl := List.mem_singleton.1 hx
          have := (World.ownsRow.lt o1.row g e2).2
          omega
  · rw [List.length_append]
    exact hm
  · have hsz0 := h.frm.size
    refine owns_block (owns_block h.row fun g hg' => hfr.same g (by have := h.low g hg'; omega) (fun e => h.rowap d hdm g hg' e)) fun g hg' => hg.block g (by have := h.low g hg'; have := hfr.size; omega) (fun e => ?_)
    have := (hvm g e.symm).1
    have := h.low g hg'
    omega
  · have := h.frm.size
    have := hfr.size
    have := hg.size
    omega
  · have hsz0 := h.frm.size
    have hsz1 := hfr.size
    rw [hg.block g (by omega) (fun e => by have := (hvm g e.symm).1; omega), hfr.same g (by omega) (hne d hdm)]
    exact h.frm.same g hlt hne
  · refine (h.bel.trans hb).trans ((Below.refl B w').grown hg ?_ (fun g hv => ?_))
    · have := h.frm.size
      have := hfr.size
      have := h.hB
      omega
    · have := (hvm g hv).1
      have := h.hB
      omega
/-- what filled leaves -/
def FPostR (B : Nat) (w : World) (ds : List Value) (c : Nat → List Nat) (e : Ending) (w' : World) : Prop := ∃ vm fs, e = .returned vm ∧ fs.length = ds.length ∧ FamR B w' ds (fun i => (c i).length) fs ∧ w'.ownsRow w.heap.size 25 1 vm fs.length fs ∧ Frm ds w w' ∧ Below B w w'
end Go.Proofs.YtebklbijpdphaaaDoor

/-
  RecordOwn, RecordAgain: filled's walk.
-/
namespace Go.Proofs.YtebklbijpdphaaaDoor
open Go Go.RowKit
open Wb

theorem wpList_append_one {P : Program} (w : World) {ops : Array Oper} {rest : List Oper} {o : Oper} {a : Act} {Q : Exit → Act → World → Prop} (hgd : o.guard = none) (s x : Operand) (t : TypeId)
    (ho : o.op = .call { callee := .builtin .append, args := #[s, x], argTypes := #[t, t] })
    (B : Nat) (hinfo : (P.info? 25).map (fun i => (i.zero, i.size, i.bytes)) = some (some (.slice none 0 0), 1, 24)) (ht : P.underlying t = some (.slice 25))
    (v : Value) (xs : List Value) (hv : a.eval s = v) (h : w.ownsRow B 25 1 v xs.length xs) (g : Nat) (y : Value) (hx : a.eval x = .slice (some ⟨g, 0, none⟩) 1 1)
    (hc : w.cell? ⟨g, 0, none⟩ = some y) (h1 : y.oneCell' = true) (hmax : xs.length ≤ 5000000000) (hB : B ≤ w.heap.size)
    (hK : ∀ v' w', w'.ownsRow B 25 1 v' (xs.length + 1) (xs ++ [y]) → w.grownBy w' v.ownBlock → (v'.ownBlock = v.ownBlock ∨ v'.ownBlock = some w.heap.size) → wpList P ops Q rest (a.put o.dst v') w') : wpList P ops Q (o :: rest) a w := by
  obtain ⟨i0, hi, hz0, hz1, hz2⟩ := Lft.info_parts3 hinfo
  refine wpList_append_own_at w hgd s x t ho B 25 i0 _ 1 24 ht hi hz0 hz1 hz2 rfl (by decide) v xs.length xs hv h ⟨g, 0, none⟩ 1 1 [y] hx rfl ?_ ?_ (by unfold maxLen; omega) (by omega) hB (fun v' w' a1 a2 _ a4 => hK v' w' a1 a2 a4)
  · intro j u hj
    match j, hj with
    | 0, hj => simp at hj; subst hj; simpa [Addr.add] using hc
  · intro u hu
    obtain rfl := List.mem_singleton.1 hu
    exact h1
set_option maxRecDepth 100000 in
set_option maxHeartbeats 8000000 in
theorem filledR_any (B : Nat) (vl : Value) (ds : List Value) (c : Nat → List Nat) (w : World) (h : Lst B w vl ds c) (hN : ds.length ≤ 9000000) (hc : ∀ i, (c i).length ≤ 16777216) (hB : B ≤ w.heap.size) :
    Calls Tryd.prog 12 #[vl] w fun e w' => FPostR B w ds c e w' := by
  have hin := info5
  have hib := infoBS
  obtain ⟨al, cl, rfl, hcl, hsl⟩ := h.shape
  unfold maxLen at hcl
  have HLOW : Hid (∀ g, (Value.slice al ds.length cl).ownBlock = some g → g < w.heap.size) := fun g hg => (World.ownsRow.lt h.row g hg).2
  have HH : Hid (Lst B w (.slice al ds.length cl) ds c) := h
  have HC : Hid (∀ i, (c i).length ≤ 16777216) := hc
  clear h hsl hc
  go_enter Tryd.func12, Tryd.ntmps12
  go_wp2
  go_loopw [4] (fun i wr => ∃ (k : Nat) (c' : Nat → List Nat), k ≤ ds.length ∧ i = .int .i64 (k : Int) ∧ Lst B wr (.slice al ds.length cl) ds c' ∧ (∀ i, (c' i).length = (c i).length) ∧ (∀ i, i < k → c' i = List.replicate (c i).length (mkA i)) ∧ Frm ds w wr ∧ Below B w wr) (fun i _ => ds.length - (intOf i).toNat)
  case atStart => exact ⟨0, c, Nat.zero_le _, rfl, HH.out, fun _ => rfl, fun i hi => absurd hi (Nat.not_lt_zero _), Frm.refl _ _, Below.refl _ _⟩
  case round =>
    obtain ⟨k, c', hk, rfl, hL, hcl', hcd, hF, hbel⟩ := hrel
    clear HH
    by_cases hlt : k < ds.length
    · obtain ⟨d, hd⟩ : ∃ d, ds[k]? = some d := ⟨ds[k], List.getElem?_eq_getElem hlt⟩
      have hnk := HC.out k
      obtain ⟨n, hn⟩ : ∃ n, (c k).length = n := ⟨_, rfl⟩
      rw [hn] at hnk
      have hck : (c' k).length = n := by rw [hcl' k, hn]
      have HX : Hid (Lst B wr (.slice al ds.length cl) ds c' ∧ (∀ i, (c' i).length = (c i).length) ∧ (∀ i, i < k → c' i = List.replicate (c i).length (mkA i)) ∧ Frm ds w wr ∧ Below B w wr ∧ (c k).length = n ∧ (c' k).length = n) := ⟨hL, hcl', hcd, hF, hbel, hn, hck⟩
      have HD : Hid (ds[k]? = some d) := hd
      obtain ⟨ad, cd, e5, _⟩ := (hL.each k d hd).bs.shape
      rw [hck] at e5
      subst e5
      have e5 := rem250 k
      have HA : Hid (1 + k % 250 = mkA k ∧ 1 + k % 250 < 256) := ⟨rfl, by omega⟩
      have hm5 : k % 250 < 250 := Nat.mod_lt _ (by decide)
      generalize k % 250 = mk5 at *
      clear hL hcl' hcd hF hbel hn hck hd
      go_wp2
      go_loopw [5] (fun i wr => ∃ (j : Nat) (c2 : Nat → List Nat), j ≤ n ∧ i = .int .i64 (j : Int) ∧ Lst B wr (.slice al ds.length cl) ds c2 ∧ (∀ i, (c2 i).length = (c i).length) ∧ (∀ i, i < k → c2 i = List.replicate (c i).length (mkA i)) ∧ (∀ p, p < j → (c2 k)[p]? = some (mkA k)) ∧ Frm ds w wr ∧ Below B w wr) (fun i _ => n - (intOf i).toNat)
      case atStart => exact ⟨0, c', Nat.zero_le _, rfl, HX.out.1, HX.out.2.1, HX.out.2.2.1, fun p hp => absurd hp (Nat.not_lt_zero _), HX.out.2.2.2.1, HX.out.2.2.2.2.1⟩
      case round =>
        obtain ⟨j, c2, hj, rfl, hL, hcl', hcd, hcp, hF, hbel⟩ := hrel
        obtain ⟨al', cl', e', _, hsl⟩ := hL.shape
        simp only [Value.slice.injEq] at e'
        obtain ⟨rfl, _, rfl⟩ := e'
        obtain ⟨gl, rfl, cgl⟩ := hsl k hlt
        rw [HD.out] at cgl
        have hc2 : (c2 k).length = n := by rw [hcl' k]; exact HX.out.2.2.2.2.2.1
        by_cases hlj : j < n
        · have how := hL.each k _ HD.out
          rcases how.shape with ⟨_, h0⟩ | ⟨gd, cd', e7, hgd, _, hlc, hcm, hcell⟩
          · rw [h0] at hc2
            simp at hc2
            omega
          · rw [hc2] at e7
            simp only [Value.slice.injEq] at e7
            obtain ⟨rfl, _, rfl⟩ := e7
            unfold maxLen at hcm
            have cj := hcell j (by omega)
            have fj : wr.frozen? ⟨gd, j, none⟩ = false := by
              have hrw := how.row
              rw [hc2] at hrw
              exact World.ownsRow.frozenAt hrw _
            have R : Hid (Lst B (wr.setCell ⟨gd, j, none⟩ (.int .u8 (1 + (mk5 : Int)))) (.slice (some ⟨gl, 0, none⟩) ds.length cl) ds (fun i => if i = k then (c2 k).set j (1 + mk5) else c2 i) ∧ (∀ i, (if i = k then (c2 k).set j (1 + mk5) else c2 i).length = (c i).length) ∧ (∀ i, i < k → (if i = k then (c2 k).set j (1 + mk5) else c2 i) = List.replicate (c i).length (mkA i)) ∧ (∀ p, p < j + 1 → (if k = k then (c2 k).set j (1 + mk5) else c2 k)[p]? = some (mkA k)) ∧ Frm ds w (wr.setCell ⟨gd, j, none⟩ (.int .u8 (1 + (mk5 : Int)))) ∧ Below B w (wr.setCell ⟨gd, j, none⟩ (.int .u8 (1 + (mk5 : Int))))) := by
              have hdk : ds[k]? = some (.slice (some ⟨gd, 0, none⟩) (c2 k).length cd) := by rw [hc2]; exact HD.out
              refine ⟨hL.put k gd cd hdk j (1 + mk5) (by omega) HA.out.2, fun i => ?_, fun i hi => ?_, fun p hp => ?_, ⟨?_, fun g hg hne => ?_⟩, Below.setCell hbel (show B ≤ gd from hgd) _⟩
              · split
                · rename_i e; rw [e, List.length_set]; exact hcl' k
                · exact hcl' i
              · rw [if_neg (by omega)]; exact hcd i hi
              · rw [if_pos rfl, List.getElem?_set]
                by_cases hpj : j = p
                · rw [if_pos hpj, if_pos (by omega), HA.out.1]
                · rw [if_neg hpj]; exact hcp p (by omega)
              · show w.heap.size ≤ (wr.heap.modify _ _).size
                rw [Array.size_modify]
                exact hF.size
              · rw [set_other wr _ _ g (fun e => hne _ (List.mem_of_getElem? HD.out) (by rw [e]; rfl))]
                exact hF.same g hg hne
            clear hL hcl' hcd hcp hF hbel how hcell hsl HX
            generalize (c2 k)[j] = cold at *
            go_wp2
            go_roundw
            case rel => exact ⟨j + 1, _, by omega, by go_num, R.out.1, R.out.2.1, R.out.2.2.1, R.out.2.2.2.1, R.out.2.2.2.2.1, R.out.2.2.2.2.2⟩
            case measure => simp [intOf]; omega
        · obtain rfl : j = n := by omega
          have R : Hid (Lst B wr (.slice (some ⟨gl, 0, none⟩) ds.length cl) ds c2 ∧ (∀ i, (c2 i).length = (c i).length) ∧ (∀ i, i < k + 1 → c2 i = List.replicate (c i).length (mkA i)) ∧ Frm ds w wr ∧ Below B w wr) := by
            refine ⟨hL, hcl', fun i hi => ?_, hF, hbel⟩
            by_cases hik : i < k
            · exact hcd i hik
            · obtain rfl : i = k := by omega
              refine List.ext_getElem? fun p => ?_
              rw [List.getElem?_replicate]
              by_cases hp : p < j
              · rw [hcp p hp, if_pos (by rw [HX.out.2.2.2.2.2.1]; exact hp)]
              · rw [List.getElem?_eq_none (by omega), if_neg (by rw [HX.out.2.2.2.2.2.1]; exact hp)]
          clear hL hcl' hcd hcp hF hbel hsl HX
          go_wp2
          go_roundw
          case rel => exact ⟨k + 1, c2, by omega, by go_num, R.out.1, R.out.2.1, R.out.2.2.1, R.out.2.2.2.1, R.out.2.2.2.2⟩
          case measure => simp [intOf]; omega
    · obtain rfl : k = ds.length := by omega
      obtain ⟨nf, hnf⟩ : ∃ nf : Nat → Nat, nf = fun i => (c i).length := ⟨_, rfl⟩
      have HNF : Hid (nf = fun i => (c i).length) := hnf
      have HN : Hid (∀ i, nf i ≤ 16777216) := fun i => by rw [hnf]; exact HC.out i
      have HP : Hid (Ph3 B w wr (.slice al ds.length cl) ds nf (.slice none 0 0) []) := by
        refine ⟨⟨fun i d hd => ?_, fun i x hx => by simp at hx⟩, hL.apart, hL.rowap, (fun i x hx => by simp at hx), (fun g hg => nomatch hg), World.ownsRow_nil _ _ _ _, hL.row, HLOW.out, hF, hbel, hB⟩
        have hi : i < ds.length := (List.getElem?_eq_some_iff.1 hd).1
        have ho := hL.each i d hd
        rw [hcd i hi] at ho
        rw [mks_zero, hnf]
        exact ho
      clear hL hcl' hcd hF hbel hk HC HLOW hnf hlt
      go_wp2
      go_loopw [3, 6] (fun vm i wr => ∃ fs : List Value, fs.length ≤ ds.length ∧ i = .int .i64 (fs.length : Int) ∧ Ph3 B w wr (.slice al ds.length cl) ds nf vm fs) (fun _ i _ => ds.length - (intOf i).toNat)
      case atStart => exact ⟨[], Nat.zero_le _, rfl, HP.out⟩
      case round =>
        obtain ⟨fs, hk, rfl, hP⟩ := hrel
        clear HP
        generalize wr = ws at *
        by_cases hlt : fs.length < ds.length
        · obtain ⟨d, hd⟩ : ∃ d, ds[fs.length]? = some d := ⟨ds[fs.length], List.getElem?_eq_getElem hlt⟩
          have HD : Hid (ds[fs.length]? = some d) := hd
          have hdm : d ∈ ds := List.mem_of_getElem? hd
          have hnk := HN.out fs.length
          obtain ⟨k, hkk⟩ : ∃ k, fs.length = k := ⟨_, rfl⟩
          obtain ⟨m, hm⟩ : ∃ m, nf k = m := ⟨_, rfl⟩
          rw [hkk] at hlt hk hnk ⊢
          rw [hm] at hnk
          have how : Own B ws d (mks m (mkA k) 0 (mkA k)) := by
            have := hP.fam.base _ d hd
            rw [hkk, hm] at this
            exact this
          obtain ⟨ad, cd, e5, hcd1, hcd2, _⟩ := how.bs.shape
          rw [mks_len, Nat.add_zero] at e5 hcd1
          subst e5
          have hrow := hP.row
          obtain ⟨gl, rfl, cgl⟩ : ∃ gl, al = some ⟨gl, 0, none⟩ ∧ ws.cell? ⟨gl, k, none⟩ = some (.slice ad m cd) := by
            rcases hrow.2 with ⟨_, h1⟩ | ⟨g, cap, cur, e, _⟩
            · omega
            · simp only [Value.slice.injEq] at e
              obtain ⟨rfl, _, rfl⟩ := e
              refine ⟨g, rfl, ?_⟩
              rw [World.ownsRow.cellAt hrow k (by omega), ← hkk]
              exact hd
          have HCK : Hid (∀ w', FrD (.slice ad m cd) ws w' → w'.cell? ⟨gl, k, none⟩ = some (.slice ad m cd)) := fun w' hf => by
            rw [← cgl]
            exact World.cell?_of_block (hf.same gl (by have := hP.low gl rfl; have := hP.frm.size; omega) (hP.rowap _ hdm gl rfl))
          have HDB : Hid (∀ g, (Value.slice ad m cd).ownBlock = some g → B ≤ g) := fun g hg => (World.ownsRow.lt how.row g hg).1
          have HX0 : Hid (Own B ws (.slice ad m cd) (mks m (mkA k) 0 (mkA k)) ∧ Wk B (.slice ad m cd) ws ws) := ⟨how, ⟨⟨Nat.le_refl _, fun _ _ _ => rfl⟩, Below.refl _ _, by have := hP.frm.size; have := hP.hB; omega⟩⟩
          have HP : Hid (Ph3 B w ws (.slice (some ⟨gl, 0, none⟩) ds.length cl) ds nf u3 fs ∧ fs.length = k ∧ nf k = m) := ⟨hP, hkk, hm⟩
          have e5 := rem250 k
          have hm5 : k % 250 < 250 := Nat.mod_lt _ (by decide)
          obtain ⟨A, hA⟩ : ∃ A, mkA k = A := ⟨_, rfl⟩
          have HE : Hid (mkA k = A ∧ A = 1 + k % 250 ∧ A < 256) := ⟨hA, by rw [← hA]; rfl, by rw [← hA]; show 1 + k % 250 < 256; omega⟩
          have HAI : Hid (((1 + k % 250 : Nat) : Int) = (A : Int)) := by show _ = _; rw [← hA]; rfl
          rw [hA] at HX0
          clear hP how hrow hdm hd hm hA hcd2 hkk
          go_wp2
          go_loopw [7, 8] (fun g3 i wx => ∃ q : Nat, q ≤ m + 70 ∧ i = .int .i64 (q : Int) ∧ Own B wx g3 (mks m A q A) ∧ Own B wx (.slice ad m cd) (mks m A 0 A) ∧ Wk B (.slice ad m cd) ws wx ∧ ∀ g, g3.ownBlock = some g → (Value.slice ad m cd).ownBlock = some g ∨ ws.heap.size ≤ g) (fun _ i _ => m + 70 - (intOf i).toNat)
          case atStart => exact ⟨0, Nat.zero_le _, rfl, HX0.out.1, HX0.out.1, HX0.out.2, fun g e => .inl e⟩
          case round =>
            obtain ⟨q, hq, rfl, o3, o0, hwk, hc3⟩ := hrel
            clear cgl HX0
            have cgl := HCK.out _ hwk.fr
            by_cases hlq : q < m + 70
            · obtain ⟨a3, c3, e9, _⟩ := o3.bs.shape
              rw [mks_len] at e9
              subst e9
              have HX : Hid (∀ o, Own B (wr.alloc o) (.slice a3 (m + q) c3) (mks m A q A) ∧ Own B (wr.alloc o) (.slice ad m cd) (mks m A 0 A) ∧ Wk B (.slice ad m cd) ws (wr.alloc o) ∧ ∀ g, (Value.slice a3 (m + q) c3).ownBlock = some g → (Value.slice ad m cd).ownBlock = some g ∨ ws.heap.size ≤ g) := fun o => ⟨o3.alloc o, o0.alloc o, hwk.below (up0 _ _), hc3⟩
              have HB1 : Hid (∀ z : Int, z = (A : Int) → Bs (wr.alloc (.cells #[.int .u8 z] 5)) (.slice (some ⟨wr.heap.size, 0, none⟩) 1 1) (List.replicate 1 A)) := fun z hz => by
                subst hz
                exact (Own.lit (B := 0) wr [A] (by intro y hy; simp at hy; subst hy; exact HE.out.2.2) (Nat.zero_le _) (by simp [maxLen]) _ rfl).bs
              have HSZ : Hid ((wr.alloc (.cells #[.int .u8 0] 5)).heap.size = wr.heap.size + 1 ∧ ws.heap.size ≤ wr.heap.size) := ⟨heap_one _ _, hwk.fr.size⟩
              clear o3 o0 hwk hc3
              go_wp2_with (at_builtin; refine wpList_append_marks _ rfl (.tmp 54) (.tmp 59) 25 rfl B hin Tryd.underlying25 _ m A q A 1 rfl (HX.out _).1 _ rfl (HB1.out _ (by rw [← HAI.out]; omega)) (by decide) (by omega) (HX.out _).2.2.1.sz ?_)
              intro g3 w6 o3 hg3 hat3 hkp3
              have R : Hid (Own B w6 g3 (mks m A (q + 1) A) ∧ Own B w6 (.slice ad m cd) (mks m A 0 A) ∧ Wk B (.slice ad m cd) ws w6 ∧ ∀ g, g3.ownBlock = some g → (Value.slice ad m cd).ownBlock = some g ∨ ws.heap.size ≤ g) := by
                refine ⟨o3, hkp3 _ 0 (HX.out _).2.1, (HX.out _).2.2.1.grown hg3 (HX.out (.cells #[] 0)).2.2.2 (fun g hg => (World.ownsRow.lt (HX.out (.cells #[] 0)).1.row g hg).1), fun g hg => ?_⟩
                rcases hat3 with e | e
                · exact (HX.out (.cells #[] 0)).2.2.2 g (e ▸ hg)
                · rw [e] at hg
                  have h9 := Option.some.inj hg
                  have h8 := HSZ.out.2
                  exact .inr (by omega)
              clear o3 hg3 hat3 hkp3 HX HB1 HSZ
              go_wp2
              go_roundw
              case rel => exact ⟨q + 1, by omega, by go_num, R.out.1, R.out.2.1, R.out.2.2.1, R.out.2.2.2⟩
              case measure => simp [intOf]; omega
            · obtain rfl : q = m + 70 := by omega
              obtain ⟨a3, c3, e9, _⟩ := o3.bs.shape
              rw [mks_len] at e9
              subst e9
              have HM : Hid (∀ o, (wr.alloc o).ownsRow w.heap.size 25 1 u3 fs.length fs ∧ w.heap.size ≤ (wr.alloc o).heap.size) := fun o => by
                have hP := HP.out.1
                have hmo := hP.more
                refine ⟨owns_kept (owns_block hmo fun g hg => hwk.fr.same g (World.ownsRow.lt hmo g hg).2 ((hP.mr g hg).1 _ (List.mem_of_getElem? HD.out))) (up0 _ _), ?_⟩
                have h1 := hP.frm.size
                have h2 := hwk.fr.size
                have h3 := (up0 wr o).size
                omega
              have HX : Hid (∀ o, Own B (wr.alloc o) (.slice a3 (m + (m + 70)) c3) (mks m A (m + 70) A) ∧ Own B (wr.alloc o) (.slice ad m cd) (mks m A 0 A) ∧ Wk B (.slice ad m cd) ws (wr.alloc o)) := fun o => ⟨o3.alloc o, o0.alloc o, hwk.below (up0 _ _)⟩
              have HC3 : Hid (∀ g, (Value.slice a3 (m + (m + 70)) c3).ownBlock = some g → (Value.slice ad m cd).ownBlock = some g ∨ ws.heap.size ≤ g) := hc3
              have hfl : fs.length ≤ 9000000 := by have := HP.out.2.1; omega
              clear o3 o0 hwk hc3 hq hlq
              go_wp2_with (at_builtin; refine wpList_append_one _ rfl (.tmp 61) (.tmp 63) 24 rfl w.heap.size hib Tryd.underlying24 _ fs rfl (HM.out _).1 wr.heap.size (.slice a3 (m + (m + 70)) c3) rfl (World.cell?_alloc_new wr _ _ 0) rfl (by omega) (HM.out _).2 ?_)
              intro v7 w7 hr7 hg7 he7
              have R : Hid (Ph3 B w w7 (.slice (some ⟨gl, 0, none⟩) ds.length cl) ds nf v7 (fs ++ [.slice a3 (m + (m + 70)) c3])) := by
                obtain ⟨hP, hkk, hm⟩ := HP.out
                refine hP.step HD.out (HX.out _).2.2.fr (HX.out _).2.2.bel ?_ ?_ HC3.out hr7 hg7 (by rw [heap_one]; exact he7)
                · rw [hkk, hm, HE.out.1]; exact (HX.out _).2.1
                · rw [hkk, hm, HE.out.1]; exact (HX.out _).1
              have hkl : (fs ++ [Value.slice a3 (m + (m + 70)) c3]).length = k + 1 := by rw [List.length_append, HP.out.2.1]; rfl
              clear hr7 hg7 he7 HM HX HC3 HDB
              go_wp2
              go_roundw
              case rel => exact ⟨_, by rw [hkl]; omega, by rw [hkl]; go_num, R.out⟩
              case measure => simp [intOf]; omega
        · have hfl : fs.length = ds.length := by omega
          rw [hfl]
          have R : Hid (FPostR B w ds c (.returned u3) ws) := ⟨u3, fs, rfl, hfl, by have := hP.fam; rw [HNF.out] at this; exact this, hP.more, hP.frm, hP.bel⟩
          clear hP
          go_wp2
          go_ret
          exact R.out
end Go.Proofs.YtebklbijpdphaaaDoor
