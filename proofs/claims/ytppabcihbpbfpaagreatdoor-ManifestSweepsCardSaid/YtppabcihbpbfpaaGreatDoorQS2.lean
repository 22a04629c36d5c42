import Derived.Deep.CutBlock
import Derived.Test.YtppabcihbpbfpaaGreatDoorQS1
/-
  ManifestSweeps: cutFiles.
-/
namespace Go.Proofs.YtppabcihbpbfpaaGreatDoor
open Go Go.RowKit Go.ChangeShapes
open Wb
open Rd
theorem cutData_any (da : Option Addr) (n dc : Nat) (w : World) (hn : n ≤ dc) (hd : dc ≤ 9223372036854775807) :
    Calls Tryz.prog 21 #[.slice da n dc] w fun e w' => e = .returned (.slice da (min n 4096) dc) ∧ w = w' := by
  by_cases h : (n : Int) > 4096
  · have t1 : ((n : Int) > 4096) = True := eq_true h
    have h2 : min n 4096 = 4096 := by omega
    have h3 : (4096 ≤ (dc : Int)) = True := eq_true (by omega)
    rw [h2]
    clear h h2
    go_enter Tryz.func21, Tryz.ntmps21
    go_wp2_with fail
    go_returns
    exact ⟨rfl, rfl⟩
  · have t1 : ((n : Int) > 4096) = False := eq_false h
    have h2 : min n 4096 = n := by omega
    rw [h2]
    clear h h2
    go_enter Tryz.func21, Tryz.ntmps21
    go_wp2_with fail
    go_returns
    exact ⟨rfl, rfl⟩
theorem fls_pre {ok : Nat → Prop} {w : World} {a : Option Addr} {N c : Nat} {fs : List (List UInt8 × List Nat)} (h : Fls ok w (.slice a N c) fs) (m : Nat) (hm : m ≤ fs.length) : Fls ok w (.slice a m c) (fs.take m) := by
  obtain ⟨a', c', e, h1, h2, h3⟩ := h.sh
  simp only [Value.slice.injEq] at e
  obtain ⟨rfl, rfl, rfl⟩ := e
  have hl : (fs.take m).length = m := by rw [List.length_take, Nat.min_eq_left hm]
  refine ⟨a, c, by rw [hl], by rw [hl]; omega, h2, fun hne => ?_⟩
  obtain ⟨b, off, e2, hok, hc⟩ := h3 (by intro e; subst e; simp at hne)
  refine ⟨b, off, e2, hok, fun j hj => ?_⟩
  have hj' : j < fs.length := by rw [hl] at hj; omega
  rw [List.getElem_take]
  exact hc j hj'
/-- the files, cut -/
def cutF (fs : List (List UInt8 × List Nat)) : List (List UInt8 × List Nat) := (fs.take 40).map fun x => (x.1, x.2.take 4096)
set_option maxRecDepth 100000 in
set_option maxHeartbeats 16000000 in
theorem cutFiles_any (ok1 : Nat → Prop) (v : Value) (fs : List (List UInt8 × List Nat)) (w : World) (h : Fls ok1 w v fs) :
    Calls Tryz.prog 7 #[v] w fun e w' => ∃ v' ys, e = .returned v' ∧ FO w.heap.size w' v' ys ∧ (ys.map fun x => (x.1, x.2.2)) = cutF fs ∧ Below w.heap.size w w' := by
  obtain ⟨fa, fc, e, h1, h2, -⟩ := h.sh
  subst e
  unfold maxLen at h2
  obtain ⟨F, hF⟩ : ∃ F, F = fs.take 40 := ⟨_, rfl⟩
  obtain ⟨N, hN⟩ : ∃ n, n = F.length := ⟨_, rfl⟩
  have hNN : N = min fs.length 40 := by rw [hN, hF, List.length_take]; omega
  have HF : Hid (∀ W, Below w.heap.size w W → Fls ok1 W (.slice fa N fc) F) := fun W hW => by
    have h9 := fls_pre (h.kept hW) N (by omega)
    rw [hF]
    have e : fs.take 40 = fs.take N := by
      rw [hNN]
      by_cases h8 : fs.length ≤ 40
      · rw [Nat.min_eq_left h8, List.take_of_length_le h8, List.take_of_length_le (Nat.le_refl _)]
      · rw [Nat.min_eq_right (by omega)]
    rw [e]
    exact h9
  have HN : Hid (N = F.length ∧ cutF fs = F.map fun x => (x.1, x.2.take 4096)) := ⟨hN, by rw [hF]; rfl⟩
  obtain ⟨L, hL⟩ : ∃ L, L = fs.length := ⟨_, rfl⟩
  rw [← hL] at h1 hNN ⊢
  have h40 : N ≤ 40 := by omega
  clear h hF hN hL
  go_enter Tryz.func7, Tryz.ntmps7
  go_upto_if 7 with fail
  go_cut [0] from 8 to 9 (fun s wx => s = .slice fa N fc ∧ w = wx)
  case first =>
    by_cases hg : (L : Int) > 40
    · have h3 : (40 ≤ (fc : Int)) = True := eq_true (by omega)
      have hn : N = 40 := by omega
      have HNe : Hid (N = 40) := hn
      clear hn hNN
      go_wp2_with fail
      go_meet
      exact ⟨by rw [HNe.out], rfl⟩
    · have hn : N = L := by omega
      have HNe : Hid (N = L) := hn
      clear hn hNN
      go_wp2_with fail
      go_meet
      exact ⟨by rw [HNe.out], rfl⟩
  case rest =>
    obtain ⟨rfl, rfl⟩ := hcut
    have hNc : N ≤ fc := by omega
    clear hNN h1
    go_wp2_with fail
    go_loopw [3, 4] (fun o i wr => ∃ (k : Nat) (ys : List FX), k ≤ N ∧ i = .int .i64 (k : Int) ∧ FO w.heap.size wr o ys ∧ (ys.map fun x => (x.1, x.2.2)) = (F.take k).map (fun x => (x.1, x.2.take 4096)) ∧ Below w.heap.size w wr) (fun _ i _ => N - (intOf i).toNat)
    case atStart => exact ⟨0, [], Nat.zero_le _, rfl, FO.nil _ _, rfl, Below.refl _ _⟩
    case round =>
      obtain ⟨k, ys, hk, rfl, hfo, hys, hb⟩ := hrel
      have HO : Hid (FO w.heap.size wr u3 ys ∧ (ys.map fun x => (x.1, x.2.2)) = (F.take k).map (fun x => (x.1, x.2.take 4096)) ∧ Below w.heap.size w wr) := ⟨hfo, hys, hb⟩
      have hyl : ys.length ≤ 300000000 := by
        have h9 := congrArg List.length hys
        rw [List.length_map, List.length_map, List.length_take] at h9
        omega
      clear hfo hys hb
      by_cases hlt : k < N
      · have hkF : k < F.length := by
          have := HN.out.1
          omega
        obtain ⟨fa', fc', e, -, -, hc⟩ := (HF.out w (Below.refl _ _)).sh
        simp only [Value.slice.injEq] at e
        obtain ⟨rfl, -, -⟩ := e
        obtain ⟨b, off, e2, -, hcell⟩ := hc (List.ne_nil_of_length_pos (by omega))
        subst e2
        obtain ⟨y0, dv, y1, hbs, -⟩ := hcell k hkF
        have HTK : Hid (F.take (k + 1) = F.take k ++ [F[k]]) := List.take_succ_eq_append_getElem hkF
        obtain ⟨p, hp⟩ : ∃ p, p = F[k] := ⟨_, rfl⟩
        rw [← hp] at y0 hbs HTK
        obtain ⟨n9, td⟩ := p
        simp only at y0 hbs
        obtain ⟨da, dc, rfl, hd1, hd2, -⟩ := hbs.shape
        unfold maxLen at hd2
        obtain ⟨tl, htl⟩ : ∃ n, n = td.length := ⟨_, rfl⟩
        have HTL : Hid (tl = td.length) := htl
        have y2 : w.cell? ⟨b, off + k * 2, none⟩ = some (.string ⟨n9.toArray⟩) := y0
        have HBS : Hid (∀ W, Below w.heap.size w W → Bs W (.slice da (min tl 4096) dc) (td.take 4096)) := fun W hW => by
          have h9 := bs_take (hbs.kept hW) (min tl 4096) (by omega)
          have e : td.take (min tl 4096) = td.take 4096 := by
            by_cases h8 : tl ≤ 4096
            · rw [Nat.min_eq_left h8, List.take_of_length_le (by omega), List.take_of_length_le (by omega)]
            · rw [Nat.min_eq_right (by omega)]
          rw [e] at h9
          exact h9
        have HCD : Hid (∀ W, Calls Tryz.prog 21 #[.slice da tl dc] W fun e w' => e = .returned (.slice da (min tl 4096) dc) ∧ W = w') := fun W => cutData_any da tl dc W (by omega) (by omega)
        rw [← htl] at y1
        obtain ⟨ml, hml⟩ : ∃ m, m = min tl 4096 := ⟨_, rfl⟩
        have HML : Hid (ml = (td.take 4096).length ∧ ml ≤ 4096) := ⟨by rw [hml, htl, List.length_take]; omega, by omega⟩
        rw [← hml] at HBS HCD
        have HAP : Hid (∀ W, Below wr.heap.size wr W → ∃ a8 n8 c8 W2, (Builtin.append_ #[32, 32] 32 #[.slice none 0 0, .slice da ml dc]).run Tryz.prog W = .ok (.slice a8 n8 c8) W2 ∧ Below w.heap.size w W2 ∧ ∃ o4 W4, (Builtin.append_ #[25, 25] 25 #[u3, .slice (some ⟨W2.heap.size, 0, none⟩) 1 1]).run Tryz.prog (W2.alloc (.cells #[.string ⟨n9.toArray⟩, .slice a8 n8 c8] 34)) = .ok o4 W4 ∧ FO w.heap.size W4 o4 (ys ++ [(n9, .slice a8 n8 c8, td.take 4096)]) ∧ Below w.heap.size w W4) := fun W hW => by
          have hw0 := andThen HO.out.2.2 hW
          obtain ⟨v8, W2, hr2, o8, g8, -⟩ := run_appB W 32 W.heap.size (.slice none 0 0) [] (Own.nil _ _) (.slice da ml dc) (td.take 4096) (HBS.out W hw0) (by have := HML.out; simp; omega) (Nat.le_refl _)
          rw [List.nil_append] at o8
          obtain ⟨a8, c8, e8, -⟩ := Mg.row_shape o8.row
          subst e8
          have b2 : Below W.heap.size W W2 := (Below.refl _ _).grown g8 (Nat.le_refl _) fun q e => by cases e
          have b3 := up0 W2 (.cells #[.string ⟨n9.toArray⟩, .slice a8 (td.take 4096).length c8] 34)
          have L3 : LB (W2.alloc (.cells #[.string ⟨n9.toArray⟩, .slice a8 (td.take 4096).length c8] 34)) W2.heap.size 34 (enF (n9, .slice a8 (td.take 4096).length c8, td.take 4096)) := lb_new W2 [.string ⟨n9.toArray⟩, .slice a8 (td.take 4096).length c8] 34
          have hw2 := andThen hw0 b2
          have f3 := (HO.out.1.kept (andThen hW b2)).kept b3
          obtain ⟨o4, W4, hr4, f4, b4⟩ := f3.app 25 (n9, .slice a8 (td.take 4096).length c8, td.take 4096) ((o8.mono hw0.size).kept b3) W2.heap.size 1 L3 (by omega) (Nat.le_trans hw2.size b3.size)
          exact ⟨a8, _, c8, W2, hr2, hw2, o4, W4, hr4, f4, (andThen hw2 b3).trans b4⟩
        have HCK : Hid (∀ W, Below w.heap.size w W → W.cell? ⟨b, off + k * 2, none⟩ = some (.string ⟨n9.toArray⟩) ∧ W.cell? ⟨b, off + k * 2 + 1, none⟩ = some (.slice da tl dc)) := fun W hW => ⟨(hW.cell (World.block_lt_of_cell? _ _ y2)).trans y2, (hW.cell (World.block_lt_of_cell? _ _ y1)).trans y1⟩
        have HDR : Hid (Below wr.heap.size wr wr.drew ∧ Below w.heap.size w wr.drew) := ⟨Below.drew (Below.refl _ _), Below.drew HO.out.2.2⟩
        clear hp y0 hbs hcell hc htl hml y1 y2 hd1 hd2
        obtain ⟨y2, y1⟩ := HCK.out wr HO.out.2.2
        go_wp2_with fail
        go_region_held3 (fun w' => w'.cell? ⟨b, off + k * 2, none⟩ = some (.string ⟨n9.toArray⟩) ∧ w'.cell? ⟨b, off + k * 2 + 1, none⟩ = some (.slice da tl dc)) (first | go_keep | (exact HCK.out _ HDR.out.2) | (exact HCK.out _ hb2) | (exact HCK.out _ hb4) | (exact HCK.out _ (andThen hb2 (up0 _ _))))
          (first | (go_at_call 21; refine (HCD.out _).mono ?_; rintro e w' ⟨rfl, rfl⟩; (obtain ⟨a8, n8, c8, W2, hr2, hb2, o4, W4, hr4, f4, hb4⟩ := HAP.out _ HDR.out.1)) | (refine step_appRun rfl (.const (.slice none 0 0)) (.tmp 27) 32 rfl rfl rfl hr2 ?_) | (refine step_appRun rfl (.tmp 16) (.tmp 30) 25 rfl rfl rfl hr4 ?_))
        have H4 : Hid (FO w.heap.size W4 o4 (ys ++ [(n9, .slice a8 n8 c8, td.take 4096)]) ∧ Below w.heap.size w W4) := ⟨f4, hb4⟩
        clear hr2 hr4 f4 hb4 hb2 y1 y2
        go_wp2_with fail
        go_roundw
        case rel =>
          refine ⟨k + 1, _, by omega, by go_num, H4.out.1, ?_, H4.out.2⟩
          rw [List.map_append, HO.out.2.1, HTK.out, List.map_append]
          rfl
        case measure => simp [intOf]; omega
      · have HE : Hid ((ys.map fun x => (x.1, x.2.2)) = cutF fs) := by
          have h9 := HO.out.2.1
          rw [List.take_of_length_le (by have := HN.out.1; omega)] at h9
          show _ = _
          rw [HN.out.2]
          exact h9
        go_wp2_with fail
        go_returns
        exact ⟨_, _, rfl, HO.out.1, HE.out, HO.out.2.2⟩
end Go.Proofs.YtppabcihbpbfpaaGreatDoor

/-
  ManifestSweeps, no program: what a Sweep leaves, at once and behind a crash.
-/
namespace Go.Proofs.YtppabcihbpbfpaaGreatDoor
open Go Go.RowKit
open Wb
open Rd
namespace Sw
open Dk
/-- no error: names, each once -/
theorem scn_zero : ∀ (fs : List (List UInt8 × List Nat)) (pre : List (List UInt8)), scn pre fs = 0 → (∀ x ∈ fs, isNm x.1 = true) ∧ (fs.map (·.1)).Nodup ∧ ∀ x ∈ fs, x.1 ∉ pre
  | [], _, _ => ⟨fun x hx => (by cases hx), List.nodup_nil, fun x hx => (by cases hx)⟩
  | x :: r, pre, h => by
    unfold scn at h
    by_cases h1 : isNm x.1 = false
    · rw [if_pos h1] at h
      cases h
    · rw [if_neg h1] at h
      by_cases h2 : x.1 ∈ pre
      · rw [if_pos h2] at h
        cases h
      · rw [if_neg h2] at h
        obtain ⟨a1, a2, a3⟩ := scn_zero r _ h
        refine ⟨fun y hy => ?_, ?_, fun y hy => ?_⟩
        · rcases List.mem_cons.1 hy with e | e
          · rw [e]
            simpa using h1
          · exact a1 y e
        · rw [List.map_cons]
          refine List.nodup_cons.2 ⟨fun hm => ?_, a2⟩
          obtain ⟨y, hy, e⟩ := List.mem_map.1 hm
          exact a3 y hy (by rw [e]; exact List.mem_append_right _ (List.mem_singleton.2 rfl))
        · rcases List.mem_cons.1 hy with e | e
          · rw [e]
            exact h2
          · exact fun hm => a3 y e (List.mem_append_left _ hm)
theorem rld_zero {q : Int} {fs : List (List UInt8 × List Nat)} (h : rldE q fs = 0) : (∀ x ∈ fs, isNm x.1 = true) ∧ (fs.map (·.1)).Nodup := by
  unfold rldE at h
  split at h
  · cases h
  · split at h
    · rename_i h2
      exact absurd h h2
    · rename_i h2
      obtain ⟨a, b, -⟩ := scn_zero fs [] (Decidable.not_not.1 h2)
      exact ⟨a, b⟩
/-- what was loaded is there -/
theorem files_mem {S : DS} {q : Int} {fs : List (List UInt8 × List Nat)} (hr : Rl S (rbgn q fs)) (hd : (fs.map (·.1)).Nodup) : ∀ x ∈ fs, x ∈ Dk.files S := fun x hx => by
  obtain ⟨j, hj, rfl⟩ := List.getElem_of_mem hx
  rw [← hr.files]
  have hdd : ∀ a b (_ : a < b) (h : b < fs.length), (fs[a]'(by omega)).1 ≠ fs[b].1 := fun a b hab h e => by
    have h1 := List.pairwise_iff_getElem.1 hd a b (by rw [List.length_map]; omega) (by rw [List.length_map]; exact h) hab
    rw [List.getElem_map, List.getElem_map] at h1
    exact h1 e
  have hg := bnm_get hdd fs.length (Nat.le_refl _) j hj hj
  refine List.mem_map.2 ⟨(fs[j].1, j), get_mem hg, ?_⟩
  have e : (bth fs).getD j ⟨[], 0, false⟩ = ⟨fs[j].2, fs[j].2.length, true⟩ := by
    unfold bth
    rw [List.getD_eq_getElem?_getD, List.getElem?_map, List.getElem?_eq_getElem hj]
    rfl
  show (fs[j].1, ((bth fs).getD j ⟨[], 0, false⟩).data) = fs[j]
  rw [e]
theorem fnd_mem : ∀ {l : List (List UInt8 × List Nat)} {x : List UInt8 × List Nat}, (l.map (·.1)).Nodup → x ∈ l → fnd l x.1 = some x.2
  | y :: r, x, hn, hx => by
    rw [List.map_cons] at hn
    obtain ⟨h1, h2⟩ := List.nodup_cons.1 hn
    unfold fnd
    rw [List.find?_cons]
    rcases List.mem_cons.1 hx with e | e
    · rw [e]
      simp
    · have hne : (y.1 == x.1) = false := beq_eq_false_iff_ne.2 fun e2 => h1 (List.mem_map.2 ⟨x, e, e2.symm⟩)
      rw [hne]
      exact fnd_mem h2 e
theorem fnd_none {l : List (List UInt8 × List Nat)} {s : List UInt8} (h : ∀ x ∈ l, x.1 ≠ s) : fnd l s = none := by
  unfold fnd
  rw [List.find?_eq_none.2 fun y hy => by simpa using h y hy]
  rfl
/-- files without some names -/
def wo (S : DS) (P : List (List UInt8)) : List (List UInt8 × List Nat) := (Dk.files S).filter fun x => !P.contains x.1
theorem wo_map (S : DS) (P : List (List UInt8)) : (S.nm.filter fun p => !P.contains p.1).map (fun p => (p.1, (S.fo p.2).data)) = wo S P := by
  unfold wo Dk.files
  rw [List.filter_map]
  rfl
theorem files_fst (S : DS) : (Dk.files S).map (·.1) = S.nm.map (·.1) := by
  unfold Dk.files
  rw [List.map_map]
  rfl
theorem wo_nd {S : DS} (h : rising S.nm) (P : List (List UInt8)) : ((wo S P).map (·.1)).Nodup := by
  have h1 : ((Dk.files S).map (·.1)).Nodup := by
    rw [files_fst]
    exact names_nd h
  exact h1.sublist ((List.filter_sublist ..).map _)
theorem wo_there {S : DS} (h : rising S.nm) (P : List (List UInt8)) {x : List UInt8 × List Nat} (hx : x ∈ Dk.files S) (hP : x.1 ∉ P) : fnd (wo S P) x.1 = some x.2 :=
  fnd_mem (wo_nd h P) (List.mem_filter.2 ⟨hx, by
    rw [Bool.not_eq_true', Bool.eq_false_iff]
    intro hc
    exact hP (List.contains_iff_mem.1 hc)⟩)
theorem wo_gone {S : DS} (P : List (List UInt8)) {s : List UInt8} (hs : s ∈ P) : fnd (wo S P) s = none := fnd_none fun x hx e => by
  have h9 := (List.mem_filter.1 hx).2
  rw [e, List.contains_iff_mem.2 hs] at h9
  cases h9
/-- what a Sweep leaves -/
structure SwF (fs : List (List UInt8 × List Nat)) (m : Mf) (T : DS) (E : Int) (gone : List (List UInt8)) (keep : Int) (cs : List (Int × Int)) : Prop where
  there : ∀ x ∈ fs, old (cnd m.l) x.1 = false → fnd (Dk.files T) x.1 = some x.2 ∧ fnd (Dk.crash T keep cs) x.1 = some x.2
  res : (E = 60 ∧ gone = [] ∧ T.down = true) ∨ (E = 0 ∧ gone ≠ [] ∧ (∀ s ∈ gone, fnd (Dk.crash T keep cs) s = none) ∧ (Dk.files T).length + gone.length = fs.length ∧ swR T m = (T, 0, []))
theorem sweep_left {S0 : DS} {q n : Int} {fs : List (List UInt8 × List Nat)} {m : Mf} (hE : rldE q fs = 0) (hr : Rl S0 (rbgn q fs)) (hW : ∀ p ∈ S0.nm, isNm p.1 = true) (hri : rising S0.nm) (hdn : S0.down = false) (hck : chkM m = 0) (hA : ∃ x ∈ fs, old (cnd m.l) x.1 = true) (keep : Int) (cs : List (Int × Int)) :
    SwF fs m (swR (arm S0 n) m).1 (swR (arm S0 n) m).2.1 (swR (arm S0 n) m).2.2 keep cs := by
  obtain ⟨hv, hd⟩ := rld_zero hE
  have hS := syn_load hr hri
  have hfm := files_mem hr hd
  have e1 : arm S0 n = { S0 with armed := decide (0 ≤ n), left := n } := by
    unfold arm
    rw [if_neg (by rw [hdn]; decide)]
  obtain ⟨S1, hS1⟩ : ∃ S1, S1 = arm S0 n := ⟨_, rfl⟩
  have a1 : S1.nm = S0.nm := by rw [hS1, e1]
  have a2 : S1.la = S0.la := by rw [hS1, e1]
  have a3 : S1.ch = S0.ch := by rw [hS1, e1]
  have a4 : S1.fo = S0.fo := by rw [hS1, e1]
  have a5 : S1.down = false := by rw [hS1, e1]; exact hdn
  rw [← hS1]
  have hrt : RT S0 S1 [] := ⟨by
    rw [a1]
    exact (List.filter_eq_self.2 fun _ _ => rfl).symm, a2.trans hS.la, by rw [a3, hS.ch]; rfl, a4⟩
  obtain ⟨L, hL⟩ : ∃ L, L = (lst S1).filter (old (cnd m.l)) := ⟨_, rfl⟩
  have hL2 : L = (S0.nm.map (·.1)).filter (old (cnd m.l)) := by
    rw [hL]
    unfold lst
    rw [if_neg (by rw [a5]; decide), a1]
  have hnd : L.Nodup := by
    rw [hL2]
    exact (names_nd hri).filter _
  have hLo : ∀ s ∈ L, old (cnd m.l) s = true := fun s hs => by
    rw [hL2] at hs
    exact (List.mem_filter.1 hs).2
  have hLm : ∀ s ∈ L, isNm s = true ∧ ∃ f, get S0.nm s = some f := fun s hs => by
    rw [hL2] at hs
    obtain ⟨p, hp, rfl⟩ := List.mem_map.1 (List.mem_filter.1 hs).1
    exact ⟨hW p hp, p.2, mem_get hri hp⟩
  have hLne : L ≠ [] := by
    obtain ⟨x, hx, ho⟩ := hA
    have hm : x.1 ∈ L := by
      rw [hL2]
      refine List.mem_filter.2 ⟨?_, ho⟩
      rw [← files_fst]
      exact List.mem_map.2 ⟨x, hfm x hx, rfl⟩
    exact fun e => by rw [e] at hm; cases hm
  have hno : ∀ (x : List UInt8 × List Nat), old (cnd m.l) x.1 = false → ∀ P : List (List UInt8), (∀ s ∈ P, s ∈ L) → x.1 ∉ P := fun x hx P hP hm => by
    have := hLo _ (hP _ hm)
    rw [hx] at this
    cases this
  have bad : ∀ (T : DS) (P : List (List UInt8)), RT S0 T P → (∀ s ∈ P, s ∈ L) → ∀ x ∈ fs, old (cnd m.l) x.1 = false → fnd (Dk.files T) x.1 = some x.2 ∧ fnd (Dk.crash T keep cs) x.1 = some x.2 := fun T P h hP x hx ho => by
    have hf : Dk.files T = wo S0 P := by
      unfold Dk.files
      rw [h.nm, h.fo]
      exact wo_map S0 P
    obtain ⟨j, hj⟩ := h.crash hS keep cs
    rw [hf, hj, wo_map]
    exact ⟨wo_there hri P (hfm x hx) (hno x ho P hP), wo_there hri _ (hfm x hx) (hno x ho _ fun s hs => hP s (List.mem_of_mem_take hs))⟩
  obtain ⟨l1, l2, q1, q2, q3⟩ := rms_rt hS L [] S1 hrt a5 hnd hLm
  rw [List.nil_append] at q2
  have hl1 : ∀ s ∈ l1, s ∈ L := fun s hs => by
    rw [q1]
    exact List.mem_append_left _ hs
  have hR : swR S1 m = if (Dk.rms S1 L).2 ≠ 0 then ((Dk.rms S1 L).1, (Dk.rms S1 L).2, []) else if L = [] then (S1, 0, []) else if sdE (Dk.rms S1 L).1 ≠ 0 then (Dk.sd (Dk.rms S1 L).1, sdE (Dk.rms S1 L).1, []) else (Dk.sd (Dk.rms S1 L).1, 0, L) := by
    unfold swR
    rw [if_neg (by rw [a5]; decide), if_neg (by rw [hck]; decide), hL]
  rcases q3 with ⟨z1, z2, z3⟩ | ⟨z1, z2⟩
  · rw [z2, List.append_nil] at q1
    rcases sd_rt q2 z3 with ⟨s1, s2, s3, s4, s5, s6⟩ | ⟨s1, s2, s3⟩
    · have hR2 : swR S1 m = (Dk.sd (Dk.rms S1 L).1, 0, L) := by
        rw [hR, if_neg (by rw [z1]; decide), if_neg hLne, if_neg (by rw [s1]; decide)]
      rw [hR2]
      obtain ⟨T, hT⟩ : ∃ T, T = Dk.sd (Dk.rms S1 L).1 := ⟨_, rfl⟩
      rw [← hT] at s2 s3 s4 s5 s6 ⊢
      have t1 : T.nm = S0.nm.filter fun p => !L.contains p.1 := by
        rw [s2, q2.nm, q1]
      have t2 : T.fo = S0.fo := s5.trans q2.fo
      have hST : Syn T := ⟨by rw [t1]; exact hri.filter _, by rw [s3, s2], s4, fun p hp => by
        rw [t2]
        rw [t1] at hp
        exact hS.sy p (List.mem_filter.1 hp).1⟩
      have hRT : RT T T [] := ⟨(List.filter_eq_self.2 fun _ _ => rfl).symm, hST.la, by rw [s4]; rfl, rfl⟩
      have hf : Dk.files T = wo S0 L := by
        unfold Dk.files
        rw [t1, t2]
        exact wo_map S0 L
      have hc : Dk.crash T keep cs = wo S0 L := by
        obtain ⟨j, hj⟩ := hRT.crash hST keep cs
        rw [hj, List.take_nil, wo_map, ← hf]
        unfold wo
        exact List.filter_eq_self.2 fun _ _ => rfl
      refine ⟨fun x hx ho => ?_, .inr ⟨rfl, hLne, fun s hs => ?_, ?_, ?_⟩⟩
      · rw [hf, hc]
        exact ⟨wo_there hri L (hfm x hx) (hno x ho L fun _ h => h), wo_there hri L (hfm x hx) (hno x ho L fun _ h => h)⟩
      · rw [hc]
        exact wo_gone L hs
      · have hlen : S0.nm.length = fs.length := by
          have b1 := sub_len _ _ (names_nd hri) fun s hs => (load_names hr s).1 hs
          have b2 := sub_len _ _ hd fun s hs => (load_names hr s).2 hs
          simp only [List.length_map] at b1 b2
          omega
        have h3 := List.length_eq_countP_add_countP (old (cnd m.l)) (l := S0.nm.map (·.1))
        rw [List.countP_eq_length_filter, List.countP_eq_length_filter, List.length_map, hlen, ← hL2] at h3
        have h4 : ((S0.nm.map (·.1)).filter fun a => decide ¬ old (cnd m.l) a = true) = (wo S0 L).map (·.1) := by
          unfold wo
          have e2 : ((Dk.files S0).filter fun x => !L.contains x.1).map (·.1) = ((Dk.files S0).map (·.1)).filter fun s => !L.contains s := by
            rw [List.filter_map]
            rfl
          rw [e2, files_fst]
          refine List.filter_congr fun s hs => ?_
          cases ho : old (cnd m.l) s with
          | true =>
            have hm : s ∈ L := by rw [hL2]; exact List.mem_filter.2 ⟨hs, ho⟩
            rw [List.contains_iff_mem.2 hm]
            rfl
          | false =>
            have hm : L.contains s = false := by
              rw [Bool.eq_false_iff]
              intro hc
              have := hLo s (List.contains_iff_mem.1 hc)
              rw [ho] at this
              cases this
            rw [hm]
            rfl
        rw [h4, List.length_map] at h3
        show (Dk.files T).length + L.length = fs.length
        rw [hf]
        omega
      · have hl0 : (lst T).filter (old (cnd m.l)) = [] := by
          unfold lst
          rw [if_neg (by rw [s6]; decide), t1]
          refine List.filter_eq_nil_iff.2 fun s hs ho => ?_
          obtain ⟨p, hp, rfl⟩ := List.mem_map.1 hs
          obtain ⟨p1, p2⟩ := List.mem_filter.1 hp
          have hm : p.1 ∈ L := by
            rw [hL2]
            exact List.mem_filter.2 ⟨List.mem_map.2 ⟨p, p1, rfl⟩, ho⟩
          rw [List.contains_iff_mem.2 hm] at p2
          cases p2
        unfold swR
        rw [if_neg (by rw [s6]; decide), if_neg (by rw [hck]; decide), hl0]
        rfl
    · have hR2 : swR S1 m = (Dk.sd (Dk.rms S1 L).1, 60, []) := by
        rw [hR, if_neg (by rw [z1]; decide), if_neg hLne, if_pos (by rw [s1]; decide), s1]
      rw [hR2]
      exact ⟨bad _ l1 s2 hl1, .inl ⟨rfl, rfl, s3⟩⟩
  · have hR2 : swR S1 m = ((Dk.rms S1 L).1, 60, []) := by
      rw [hR, if_pos (by rw [z1]; decide), z1]
    rw [hR2]
    exact ⟨bad _ l1 q2 hl1, .inl ⟨rfl, rfl, z2⟩⟩
end Sw
end Go.Proofs.YtppabcihbpbfpaaGreatDoor

/-
  ManifestSweeps: cutSegs, small; what Check lets pass.
-/
namespace Go.Proofs.YtppabcihbpbfpaaGreatDoor
open Go Go.RowKit Go.ChangeShapes
open Wb
open Rd
theorem SgsAt.take {w : World} {ao : Option Addr} {cap : Nat} {l : List Sg} (h : SgsAt w (.slice ao l.length cap) l) (n : Nat) (hn : n ≤ l.length) : SgsAt w (.slice ao n cap) (l.take n) := by
  obtain ⟨ao', cap', e, h1, h2, hc⟩ := h
  simp only [Value.slice.injEq] at e
  obtain ⟨rfl, _, rfl⟩ := e
  refine ⟨ao, cap, by rw [List.length_take, Nat.min_eq_left hn], by rw [List.length_take]; omega, h2, fun k s hs => hc k s ?_⟩
  have hk := (List.getElem?_eq_some_iff.1 hs).1
  rw [List.length_take] at hk
  rw [List.getElem?_take] at hs
  rw [if_pos (by omega)] at hs
  exact hs
set_option maxRecDepth 100000 in
set_option maxHeartbeats 4000000 in
theorem cutSegs_any (m : Mf) (v : Value) (w0 w : World) (h : SgsAt w0 v m.l) :
    Calls Tryz.prog 4 #[mfv m v] w fun e w' => ∃ v', e = .returned (mfv ⟨m.g, m.v, m.x, m.t, m.l.take 300⟩ v') ∧ (∀ w'', Below w0.heap.size w0 w'' → SgsAt w'' v' (m.l.take 300)) ∧ Below w.heap.size w w' := by
  have HS : Hid (SgsAt w0 v m.l) := h
  obtain ⟨ao, cap, rfl, hc1, hc2, _⟩ := h
  unfold maxLen at hc2
  obtain ⟨g, vv, x, t, l⟩ := m
  unfold mfv
  simp only at *
  by_cases h3 : 300 < l.length
  · have HK : Hid (∀ w', Below w0.heap.size w0 w' → SgsAt w' (.slice ao 300 cap) (l.take 300)) := fun w' hb => (HS.out.kept hb).take 300 (by omega)
    clear HS
    go_enter Tryz.func4, Tryz.ntmps4
    go_wp2
    go_returns
    exact ⟨_, rfl, HK.out, by go_grown⟩
  · have HT : Hid (l.take 300 = l) := List.take_of_length_le (by omega)
    have HK : Hid (∀ w', Below w0.heap.size w0 w' → SgsAt w' (.slice ao l.length cap) l) := fun w' hb => HS.out.kept hb
    rw [HT.out]
    clear HS HT
    go_enter Tryz.func4, Tryz.ntmps4
    go_wp2
    go_returns
    exact ⟨_, rfl, HK.out, by go_grown⟩
def smallM : Mf := ⟨1, 3, 2, 0, [⟨1, 0, 0⟩]⟩
set_option maxRecDepth 100000 in
theorem small_any (w : World) : Calls Tryz.prog 6 #[] w fun e w' => ∃ v, e = .returned (mfv smallM v) ∧ SgsAt w' v smallM.l ∧ Below w.heap.size w w' := by
  unfold mfv smallM
  simp only
  go_enter Tryz.func6, Tryz.ntmps6
  go_wp2
  go_returns
  refine ⟨_, rfl, ?_, by go_grown⟩
  refine ⟨_, 1, rfl, by simp, by simp [maxLen], fun k s hs => ?_⟩
  obtain rfl : k = 0 := by
    have := (List.getElem?_eq_some_iff.1 hs).1
    simpa using this
  simp at hs
  subst hs
  refine ⟨_, _, rfl, fun j u hj => ?_⟩
  have h9 := World.cell?_alloc_new (w.alloc (.cells #[.int .i64 1, .int .i64 3, .int .i64 2, .int .i64 0, .slice (some ⟨w.heap.size + 1, 0, none⟩) 1 1] 24)) #[.int .i64 1, .int .i64 0, .int .i64 0] 56 j
  rw [heap1] at h9
  rw [show 0 + 0 * 3 + j = j by omega, h9]
  simpa [sgc] using hj
set_option maxRecDepth 100000 in
set_option maxHeartbeats 4000000 in
theorem small_new (w : World) : Calls Tryz.prog 6 #[] w fun e w' => ∃ b, e = .returned (mfv smallM (.slice (some ⟨b, 0, none⟩) 1 1)) ∧ w.heap.size ≤ b ∧ SgsAt w' (.slice (some ⟨b, 0, none⟩) 1 1) smallM.l ∧ Below w.heap.size w w' := by
  unfold mfv smallM
  simp only
  go_enter Tryz.func6, Tryz.ntmps6
  go_wp2
  go_returns
  refine ⟨w.heap.size + 1, rfl, Nat.le_succ _, ?_, by go_grown⟩
  refine ⟨_, 1, rfl, by simp, by simp [maxLen], fun k s hs => ?_⟩
  obtain rfl : k = 0 := by
    have := (List.getElem?_eq_some_iff.1 hs).1
    simpa using this
  simp at hs
  subst hs
  refine ⟨_, _, rfl, fun j u hj => ?_⟩
  have h9 := World.cell?_alloc_new (w.alloc (.cells #[.int .i64 1, .int .i64 3, .int .i64 2, .int .i64 0, .slice (some ⟨w.heap.size + 1, 0, none⟩) 1 1] 24)) #[.int .i64 1, .int .i64 0, .int .i64 0] 56 j
  rw [heap1] at h9
  rw [show 0 + 0 * 3 + j = j by omega, h9]
  simpa [sgc] using hj
theorem cell_blk {w w' : World} {b : Nat} (h : w'.heap[b]? = w.heap[b]?) (o : Nat) : w'.cell? ⟨b, o, none⟩ = w.cell? ⟨b, o, none⟩ := by
  simp only [World.cell?]
  rw [h]
theorem SgsAt.blk {w w' : World} {b n c : Nat} {l : List Sg} (h : SgsAt w (.slice (some ⟨b, 0, none⟩) n c) l) (hb : w'.heap[b]? = w.heap[b]?) : SgsAt w' (.slice (some ⟨b, 0, none⟩) n c) l := by
  obtain ⟨ao, cap, e, h1, h2, h3⟩ := h
  refine ⟨ao, cap, e, h1, h2, fun k s hs => ?_⟩
  obtain ⟨b2, off, e2, hr⟩ := h3 k s hs
  simp only [Value.slice.injEq] at e
  obtain ⟨e3, -, -⟩ := e
  have e4 := e3.trans e2
  simp only [Option.some.injEq, Addr.mk.injEq, and_true] at e4
  obtain ⟨rfl, -⟩ := e4
  exact ⟨b, off, e2, fun j v hv => (cell_blk hb _).trans (hr j v hv)⟩
theorem sgs_fit : ∀ (l : List Sg) (next b : Int), 0 ≤ b → next ≤ 1099511627776 → sgsOk next b l = true → ∀ s ∈ l, Sg.fit s ∧ s.n < 1099511627776
  | [], _, _, _, _, _ => fun s hs => by cases hs
  | x :: r, next, b, hb, hn, h => fun s hs => by
    have h1 : (sgOk next b r.isEmpty x && sgsOk next x.n r) = true := h
    rw [Bool.and_eq_true] at h1
    obtain ⟨h2, h3⟩ := h1
    unfold sgOk at h2
    rw [Bool.and_eq_true, Bool.and_eq_true] at h2
    obtain ⟨h4, h5, h6⟩ := h2
    have h4 := of_decide_eq_true h4
    have h5 := of_decide_eq_true h5
    have h7 : (0 ≤ x.s ∧ x.s ≤ 524288) ∧ (0 ≤ x.c ∧ x.c ≤ 524288) := by
      cases hr : r.isEmpty with
      | true =>
        rw [hr] at h6
        simp at h6
        omega
      | false =>
        rw [hr] at h6
        simp at h6
        omega
    rcases List.mem_cons.1 hs with e | e
    · rw [e]
      exact ⟨⟨⟨by omega, by omega⟩, ⟨by omega, by omega⟩, ⟨by omega, by omega⟩⟩, by omega⟩
    · exact sgs_fit r next x.n (by omega) hn h3 s e
theorem chk_fit {m : Mf} (h : chkM m = 0) : (∀ s ∈ m.l, Sg.fit s ∧ s.n < 1099511627776) ∧ m.l.length ≤ 128 := by
  unfold chkM at h
  split at h
  · cases h
  · split at h
    · cases h
    · split at h
      · cases h
      · rename_i h3
        split at h
        · cases h
        · split at h
          · cases h
          · rename_i h5
            split at h
            · rename_i h6
              exact ⟨sgs_fit m.l m.x 0 (Int.le_refl _) (by omega) h6, by omega⟩
            · cases h
theorem small_chk : chkM smallM = 0 := by decide
end Go.Proofs.YtppabcihbpbfpaaGreatDoor
