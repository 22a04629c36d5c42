import Derived.Test.YtgdfnlbiminblaaQG21
import Derived.Test.YtgdfnlbiminblaaQG20
/-
  DiskAgain: copies, whose rows lie apart. (In a seat with the document's disk: import Dne, Cj in place of Ck.)
-/
namespace Go.Proofs.Ytgdfnlbiminblaa
open Go Go.RowKit Go.ChangeShapes
open Wb
open Rd
set_option maxRecDepth 100000 in
set_option maxHeartbeats 8000000 in
theorem dlcopiesA_any (ok1 : Nat → Prop) (v : Value) (fs : List (List UInt8 × List Nat)) (w : World) (h : Fls ok1 w v fs) (hn : fs.length ≤ 300000000) (hl : ∀ x ∈ fs, x.2.length ≤ 1000000000) :
    Calls Try.prog 5 #[v] w fun e w' => ∃ v' ys, e = .returned v' ∧ FOA w.heap.size w' v' ys ∧ (ys.map fun x => (x.1, x.2.2)) = fs ∧ Below w.heap.size w w' := by
  have HV : Hid (∀ W, Below w.heap.size w W → Fls ok1 W v fs) := fun W hW => h.kept hW
  have HLL : Hid (∀ x ∈ fs, x.2.length ≤ 1000000000) := hl
  obtain ⟨fa, fc, e, h1, h2, h3⟩ := h.sh
  subst e
  unfold maxLen at h2
  clear h h3 hl
  go_enter Try.func5, Try.ntmps5
  go_wp2_with fail
  go_loopw [3, 4] (fun o i wr => ∃ (k : Nat) (ys : List (List UInt8 × Value × List Nat)), k ≤ fs.length ∧ i = .int .i64 (k : Int) ∧ FOA w.heap.size wr o ys ∧ (ys.map fun x => (x.1, x.2.2)) = fs.take k ∧ Below w.heap.size w wr) (fun _ i _ => fs.length - (intOf i).toNat)
  case atStart => exact ⟨0, [], Nat.zero_le _, rfl, FOA.nil _ _, rfl, Below.refl _ _⟩
  case round =>
    obtain ⟨k, ys, hk, rfl, hfo, hys, hb⟩ := hrel
    have HO : Hid (FOA w.heap.size wr u3 ys ∧ (ys.map fun x => (x.1, x.2.2)) = fs.take k ∧ Below w.heap.size w wr) := ⟨hfo, hys, hb⟩
    have hyl : ys.length ≤ 300000000 := by
      have h9 := congrArg List.length hys
      rw [List.length_map, List.length_take] at h9
      omega
    clear hfo hys hb
    by_cases hlt : k < fs.length
    · obtain ⟨fa', fc', e, -, -, hc⟩ := (HV.out w (Below.refl _ _)).sh
      simp only [Value.slice.injEq] at e
      obtain ⟨rfl, -, -⟩ := e
      obtain ⟨b, off, e2, -, hcell⟩ := hc (List.ne_nil_of_length_pos (by omega))
      subst e2
      obtain ⟨y0, dv, y1, hbs, -⟩ := hcell k hlt
      have hl9 := HLL.out _ (List.getElem_mem hlt)
      have HTK : Hid (fs.take (k + 1) = fs.take k ++ [fs[k]]) := List.take_succ_eq_append_getElem hlt
      obtain ⟨p, hp⟩ : ∃ p, p = fs[k] := ⟨_, rfl⟩
      rw [← hp] at y0 hbs hl9 HTK
      obtain ⟨n9, td⟩ := p
      simp only at y0 hbs hl9
      obtain ⟨da, dc, rfl, -⟩ := hbs.shape
      have y2 : w.cell? ⟨b, off + k * 2, none⟩ = some (.string ⟨n9.toArray⟩) := y0
      have HPT : Hid (∀ W, Below wr.heap.size wr W → Calls Try.prog 6 #[.slice da td.length dc] W fun e w' => ∃ b9 n9 c9, e = .returned (.slice b9 n9 c9) ∧ Own W.heap.size w' (.slice b9 n9 c9) td ∧ Below W.heap.size W w') := fun W hW => (dlcopied_any _ td W (hbs.kept (andThen HO.out.2.2 hW)) hl9).mono fun e w' ⟨v', h1, h2, h3⟩ => by
        obtain ⟨b9, c9, rfl, -⟩ := Mg.row_shape h2.row
        exact ⟨b9, _, c9, h1, h2, h3⟩
      have HAP : Hid (∀ (W W2 : World) (b9 : Option Addr) (n8 c9 : Nat), Below wr.heap.size wr W → Below W.heap.size W W2 → Own W.heap.size W2 (.slice b9 n8 c9) td → ∃ o4 W4, (Builtin.append_ #[22, 22] 22 #[u3, .slice (some ⟨W2.heap.size, 0, none⟩) 1 1]).run Try.prog (W2.alloc (.cells #[.string ⟨n9.toArray⟩, .slice b9 n8 c9] 30)) = .ok o4 W4 ∧ FOA w.heap.size W4 o4 (ys ++ [(n9, .slice b9 n8 c9, td)]) ∧ Below w.heap.size w W4) := fun W W2 b9 n8 c9 h1 h2 h3 => by
        have b3 := up0 W2 (.cells #[.string ⟨n9.toArray⟩, .slice b9 n8 c9] 30)
        have L3 : LB (W2.alloc (.cells #[.string ⟨n9.toArray⟩, .slice b9 n8 c9] 30)) W2.heap.size 30 (enF (n9, .slice b9 n8 c9, td)) := lb_new W2 [.string ⟨n9.toArray⟩, .slice b9 n8 c9] 30
        have h4 := andThen h1 h2
        have f3 := (HO.out.1.kept h4).kept b3
        obtain ⟨o4, W4, hr4, f4, b4⟩ := f3.app 22 (v := .slice b9 n8 c9) (fun y hy q e e2 => by
          have h7 := (World.ownsRow.lt (HO.out.1.fo.own y hy).row q e).2
          have h8 := (World.ownsRow.lt h3.row q e2).1
          have h9 := h1.size
          omega) (n9, .slice b9 n8 c9, td) ((h3.mono (Nat.le_trans HO.out.2.2.size h1.size)).kept b3) W2.heap.size 1 L3 (by omega) (Nat.le_trans HO.out.2.2.size (Nat.le_trans h4.size b3.size))
        exact ⟨o4, W4, hr4, f4, (andThen (andThen HO.out.2.2 h4) b3).trans b4⟩
      have HCK : Hid (∀ W, Below w.heap.size w W → W.cell? ⟨b, off + k * 2, none⟩ = some (.string ⟨n9.toArray⟩) ∧ W.cell? ⟨b, off + k * 2 + 1, none⟩ = some (.slice da td.length dc)) := fun W hW => ⟨(hW.cell (World.block_lt_of_cell? _ _ y2)).trans y2, (hW.cell (World.block_lt_of_cell? _ _ y1)).trans y1⟩
      clear hp y0 hbs hcell hc
      clear y1 y2
      obtain ⟨y2, y1⟩ := HCK.out wr HO.out.2.2
      go_wp2_with fail
      go_region_held3 (fun w' => w'.cell? ⟨b, off + k * 2, none⟩ = some (.string ⟨n9.toArray⟩) ∧ w'.cell? ⟨b, off + k * 2 + 1, none⟩ = some (.slice da td.length dc)) (first | go_keep | (exact HCK.out _ (andThen HO.out.2.2 (andThen (Below.drew (Below.refl _ _)) hb'))) | (exact HCK.out _ b4))
        (first | (go_at_call 6; refine (HPT.out _ ?_).mono ?_; (exact Below.drew (Below.refl _ _)); rintro e w' ⟨b9, n8, c9, rfl, o9, hb'⟩; (obtain ⟨o4, W4, hr4, f4, b4⟩ := HAP.out _ w' b9 n8 c9 (Below.drew (Below.refl _ _)) hb' o9)) | (refine step_appRun rfl (.tmp 11) (.tmp 24) 22 rfl rfl rfl hr4 ?_))
      have H4 : Hid (FOA w.heap.size W4 o4 (ys ++ [(n9, .slice b9 n8 c9, td)]) ∧ Below w.heap.size w W4) := ⟨f4, b4⟩
      clear hr4 f4 b4 o9 hb' y1 y2
      go_wp2_with fail
      go_roundw
      case rel =>
        refine ⟨k + 1, _, by omega, by go_num, H4.out.1, ?_, H4.out.2⟩
        rw [List.map_append, HO.out.2.1, HTK.out]
        rfl
      case measure => simp [intOf]; omega
    · have HE : Hid ((ys.map fun x => (x.1, x.2.2)) = fs) := by
        have h9 := HO.out.2.1
        rw [List.take_of_length_le (by omega)] at h9
        exact h9
      go_wp2_with fail
      go_returns
      exact ⟨_, _, rfl, HO.out.1, HE.out, HO.out.2.2⟩
end Go.Proofs.Ytgdfnlbiminblaa

/-
  DiskAgain: spot, behind.
-/
namespace Go.Proofs.Ytgdfnlbiminblaa
open Go Go.RowKit Go.ChangeShapes
open Wb
open Rd
theorem tmod_place (a : Int) (n : Nat) (hn : 0 < n) : ∃ I : Nat, I < n ∧ (Int.tmod a (n : Int) = (I : Int) ∨ ∃ z, Int.tmod a (n : Int) = z ∧ z < 0 ∧ z + (n : Int) = (I : Int)) := by
  have h1 := Int.tmod_lt_of_pos a (show (0 : Int) < (n : Int) by omega)
  have h2 : -(n : Int) < Int.tmod a (n : Int) := by
    have := Int.lt_tmod_of_pos a (show (0 : Int) < (n : Int) by omega)
    omega
  by_cases h : 0 ≤ Int.tmod a (n : Int)
  · exact ⟨(Int.tmod a (n : Int)).toNat, by omega, .inl (by omega)⟩
  · exact ⟨(Int.tmod a (n : Int) + n).toNat, by omega, .inr ⟨_, rfl, by omega, by omega⟩⟩
theorem byte_of (y : Int) : ∃ t : Nat, t < 256 ∧ IntKind.u8.wrap y = (t : Int) := by
  refine ⟨(y % 256).toNat, by omega, ?_⟩
  rw [IntKind.wrap_u8]
  omega
set_option maxRecDepth 100000 in
set_option maxHeartbeats 8000000 in
theorem dlspot_any (a : Int) (n : Nat) (hn : 0 < n) (hm : n ≤ 1000000000000) : ∃ j : Nat, j < n ∧ ∀ w, Calls Try.prog 17 #[.int .i64 a, .int .i64 (n : Int)] w fun e w' => e = .returned (.int .i64 (j : Int)) ∧ w' = w := by
  obtain ⟨I, hI, hz⟩ := tmod_place a n hn
  refine ⟨I, hI, fun w => ?_⟩
  have hn1 : (n : Int) ≠ 0 := by omega
  rcases hz with hz | ⟨z, hz, hz0, hzI⟩
  · have hzlt : ((I : Int) < 0) = False := eq_false (by omega)
    go_enter Try.func17, Try.ntmps17
    go_wp2_with fail
    go_returns
    exact ⟨rfl, rfl⟩
  · have hzlt : (z < 0) = True := eq_true hz0
    go_enter Try.func17, Try.ntmps17
    go_wp2_with fail
    go_returns
    exact ⟨rfl, rfl⟩
set_option maxRecDepth 100000 in
set_option maxHeartbeats 8000000 in
theorem dlbehind_any (b g e n m N M k1 k2 dc : Nat) (w : World) (hn : n < N) (_hN : N ≤ 1000000000000) (hm : m < M) (_hM : M ≤ 1000000000000) (c0 : w.cell? ⟨b, n * 2, none⟩ = some (.string ⟨#[98, 101, 104, 105, 110, 100]⟩)) (c1 : w.cell? ⟨b, n * 2 + 1, none⟩ = some (.slice (some ⟨g, 0, none⟩) 1 dc)) (c2 : w.cell? ⟨g, 0, none⟩ = some (.int .u8 77)) (c3 : w.cell? ⟨e, m * 2, none⟩ = some (.int .i64 (-77))) (c4 : w.cell? ⟨e, m * 2 + 1, none⟩ = some (.int .i64 (-78))) :
    Calls Try.prog 19 #[.slice (some ⟨b, 0, none⟩) N k1, .int .i64 (n : Int), .slice (some ⟨e, 0, none⟩) M k2, .int .i64 (m : Int)] w fun e w' => e = .returned (.bool true) ∧ w' = w := by
  go_enter Try.func19, Try.ntmps19
  go_wp2_with fail
  go_returns
  exact ⟨rfl, rfl⟩
end Go.Proofs.Ytgdfnlbiminblaa

/-
  DiskAgain: what the walk keeps.
-/
namespace Go.Proofs.Ytgdfnlbiminblaa
open Go Go.RowKit Go.ChangeShapes
open Wb
open Rd
/-- pairs in a row -/
def Pr (w : World) (v : Value) (ps : List (Int × Int)) : Prop := ∃ a c, v = .slice a ps.length c ∧ ps.length ≤ c ∧ c ≤ maxLen ∧ (ps ≠ [] → ∃ b off, a = some ⟨b, off, none⟩ ∧ ∀ j (h : j < ps.length), w.cell? ⟨b, off + j * 2, none⟩ = some (.int .i64 ps[j].1) ∧ w.cell? ⟨b, off + j * 2 + 1, none⟩ = some (.int .i64 ps[j].2))
theorem Pr.kept {w w' : World} {v : Value} {ps : List (Int × Int)} (h : Pr w v ps) (hb : Below w.heap.size w w') : Pr w' v ps := by
  obtain ⟨a, c, rfl, hm, hm2, hc⟩ := h
  refine ⟨a, c, rfl, hm, hm2, fun hne => ?_⟩
  obtain ⟨b, off, rfl, hcell⟩ := hc hne
  exact ⟨b, off, rfl, fun j hj => ⟨(hb.cell (p := ⟨b, off + j * 2, none⟩) (World.block_lt_of_cell? _ _ (hcell j hj).1)).trans (hcell j hj).1, (hb.cell (p := ⟨b, off + j * 2 + 1, none⟩) (World.block_lt_of_cell? _ _ (hcell j hj).2)).trans (hcell j hj).2⟩⟩
/-- files, told -/
def fT (xs : List FX) : List (List UInt8 × List Nat) := xs.map fun x => (x.1, x.2.2)
theorem fls_pre {ok : Nat → Prop} {w : World} {a : Option Addr} {N c : Nat} {fs : List (List UInt8 × List Nat)} (h : Fls ok w (.slice a N c) fs) (m : Nat) (hm : m ≤ fs.length) : Fls ok w (.slice a m c) (fs.take m) := by
  obtain ⟨a', c', e, h1, h2, h3⟩ := h.sh
  simp only [Value.slice.injEq] at e
  obtain ⟨rfl, rfl, rfl⟩ := e
  have hl : (fs.take m).length = m := by rw [List.length_take, Nat.min_eq_left hm]
  refine ⟨a, c, by rw [hl], by rw [hl]; omega, h2, fun hne => ?_⟩
  obtain ⟨b, off, e2, hok, hc⟩ := h3 (by intro e; subst e; simp at hne)
  refine ⟨b, off, e2, hok, fun j hj => ?_⟩
  have hj' : j < fs.length := by rw [hl] at hj; omega
  rw [List.getElem_take]
  exact hc j hj'
theorem cts_pre {w : World} {a : Option Addr} {N c : Nat} {cs : List (Int × Int)} (h : CtS w (.slice a N c) cs) (m : Nat) (hm : m ≤ cs.length) : CtS w (.slice a m c) (cs.take m) := by
  obtain ⟨a', c', e, h1, h2, h3⟩ := h
  simp only [Value.slice.injEq] at e
  obtain ⟨rfl, rfl, rfl⟩ := e
  have hl : (cs.take m).length = m := by rw [List.length_take, Nat.min_eq_left hm]
  refine ⟨a, c, by rw [hl], by rw [hl]; omega, h2, fun hne => ?_⟩
  obtain ⟨b, off, e2, hc⟩ := h3 (by intro e; subst e; simp at hne)
  refine ⟨b, off, e2, fun j hj => ?_⟩
  have hj' : j < cs.length := by rw [hl] at hj; omega
  rw [List.getElem_take]
  exact hc j hj'
theorem fls_slice {ok : Nat → Prop} {w : World} {v : Value} {fs : List (List UInt8 × List Nat)} (h : Fls ok w v fs) : ∃ a c, v = .slice a fs.length c := by
  obtain ⟨a, c, e, -⟩ := h.sh
  exact ⟨a, c, e⟩
theorem flen_mem {fs : List (List UInt8 × List Nat)} : ∀ x ∈ fs, x.2.length ≤ Dk.flen fs := fun x hx => by
  unfold Dk.flen
  induction fs with
  | nil => cases hx
  | cons y r ih =>
    rw [List.map_cons, List.sum_cons]
    rcases List.mem_cons.1 hx with e | e
    · rw [e]
      omega
    · have := ih e
      omega
def bhN : List UInt8 := [98, 101, 104, 105, 110, 100]
/-- the files' names and lengths, and one behind -/
structure Okf (fs : List (List UInt8 × List Nat)) (ys : List FX) : Prop where
  sh : ys.map (fun x => (x.1, x.2.2.length)) = fs.map (fun x => (x.1, x.2.length)) ++ [(bhN, 1)]
  bh : ∃ vb, ys[fs.length]? = some (bhN, vb, [77])
section
variable {fs : List (List UInt8 × List Nat)} {ys : List FX}
theorem Okf.len (h : Okf fs ys) : ys.length = fs.length + 1 := by
  have := congrArg List.length h.sh
  rw [List.length_map, List.length_append, List.length_map] at this
  exact this
theorem Okf.set (h : Okf fs ys) {i : Nat} {x : FX} (hx : ys[i]? = some x) (hi : i < fs.length) (k b : Nat) : Okf fs (ys.set i (x.1, x.2.1, x.2.2.set k b)) := by
  refine ⟨?_, ?_⟩
  · rw [List.map_set, List.length_set, ← h.sh]
    apply List.ext_getElem?
    intro j
    rw [List.getElem?_set]
    by_cases e : i = j
    · subst e
      have := (List.getElem?_eq_some_iff.1 hx).1
      rw [if_pos rfl, if_pos (by rw [List.length_map]; exact this), List.getElem?_map, hx]
      rfl
    · rw [if_neg e]
  · obtain ⟨vb, hv⟩ := h.bh
    exact ⟨vb, by rw [List.getElem?_set, if_neg (by omega)]; exact hv⟩
theorem Okf.take (h : Okf fs ys) : (fT (ys.take fs.length)).map (fun x => (x.1, x.2.length)) = fs.map (fun x => (x.1, x.2.length)) := by
  have := congrArg (List.take fs.length) h.sh
  rw [← List.map_take, List.take_left' (by rw [List.length_map])] at this
  rw [← this]
  unfold fT
  rw [List.map_map]
  rfl
theorem Okf.tlen (h : Okf fs ys) : (fT (ys.take fs.length)).length = fs.length := by
  have := congrArg List.length h.take
  rwa [List.length_map, List.length_map] at this
theorem Okf.names (h : Okf fs ys) {P : List UInt8 → Prop} (hp : ∀ x ∈ fs, P x.1) : ∀ x ∈ fT (ys.take fs.length), P x.1 := fun x hx => by
  have h1 : (x.1, x.2.length) ∈ (fT (ys.take fs.length)).map (fun x => (x.1, x.2.length)) := List.mem_map.2 ⟨x, hx, rfl⟩
  rw [h.take] at h1
  obtain ⟨y, hy, e⟩ := List.mem_map.1 h1
  have e2 := (Prod.mk.inj e).1
  rw [← e2]
  exact hp y hy
theorem Okf.flen (h : Okf fs ys) : Dk.flen (fT (ys.take fs.length)) = Dk.flen fs := by
  have := congrArg (fun l => (l.map Prod.snd).sum) h.take
  simp only [List.map_map] at this
  exact this
end
/-- the disks and what is wanted of them -/
def DWo (N : Nat) (ds : List (Nat × Dk.DS × Mm)) (ws : List (Value × List FX)) : Prop := ds.length = ws.length ∧ ∀ (k : Nat) (d : Nat × Dk.DS × Mm) (x : Value × List FX), ds[k]? = some d → ws[k]? = some x → Dk.WF d.2.1 N ∧ fT x.2 = Dk.files d.2.1
theorem DWo.add {N : Nat} {ds : List (Nat × Dk.DS × Mm)} {ws : List (Value × List FX)} (h : DWo N ds ws) {d : Nat × Dk.DS × Mm} {x : Value × List FX} (h1 : Dk.WF d.2.1 N) (h2 : fT x.2 = Dk.files d.2.1) : DWo N (ds ++ [d]) (ws ++ [x]) := by
  refine ⟨by rw [List.length_append, List.length_append, h.1]; rfl, fun k d' x' hd hx => ?_⟩
  by_cases hk : k < ds.length
  · rw [List.getElem?_append_left hk] at hd
    rw [List.getElem?_append_left (by rw [← h.1]; exact hk)] at hx
    exact h.2 k d' x' hd hx
  · rw [List.getElem?_append_right (by omega)] at hd
    rw [List.getElem?_append_right (by rw [← h.1]; omega), ← h.1] at hx
    have h0 : k - ds.length = 0 := by
      have := (List.getElem?_eq_some_iff.1 hd).1
      rw [List.length_singleton] at this
      omega
    rw [h0] at hd hx
    simp at hd hx
    rw [← hd, ← hx]
    exact ⟨h1, h2⟩
/-- Load, both ways -/
def LdP (q : Int) (gs : List (List UInt8 × List Nat)) (W : World) (e : Ending) (w' : World) : Prop := ∃ po, e = .returned (.tuple #[.pointer po, .int .i64 (rldE q gs)]) ∧ Below W.heap.size W w' ∧ ((rldE q gs ≠ 0 ∧ po = none) ∨ (rldE q gs = 0 ∧ ∃ g S M, po = some ⟨g, 0, none⟩ ∧ DM W.heap.size w' g S M ∧ Dk.WF S gs.length ∧ Rl S (rbgn q gs)))
theorem ld_any (q : Int) (ok1 : Nat → Prop) (v : Value) (gs : List (List UInt8 × List Nat)) (w : World) (hfs : Fls ok1 w v gs) (hn : gs.length ≤ 300000000) (hnm : ∀ x ∈ gs, x.1.length ≤ maxLen) : Calls Try.prog 7 #[.int .i64 q, v] w (LdP q gs w) :=
  (dkload_rl q ok1 v gs w hfs (by omega) hnm).mono fun e w' ⟨b, h⟩ => by
    rcases h with ⟨h1, h2⟩ | ⟨h1, g, S, M, h2, h3⟩
    · exact ⟨none, h2, b, .inl ⟨h1, rfl⟩⟩
    · exact ⟨_, by rw [h1]; exact h2, b, .inr ⟨h1, g, S, M, rfl, h3⟩⟩
section
variable {w w' : World} {col : Nat → Nat} {av : Value} {ys : List FX} {cv : Value} {cs : List (Int × Int)} {bv : Value} {bl : List Nat} {kv : Value} {kl : List Nat} {ga f : Nat} {M : Mm} {dv : Value} {ds : List (Nat × Dk.DS × Mm)} {wv : Value} {ws : List (Value × List FX)}
theorem AG.giv {a : Option Addr} {N c : Nat} (h : AG w col (.slice a N c) ys cv cs bv bl kv kl ga f M dv ds wv ws) (n : Nat) (hn : n ≤ ys.length) : Fls (0 ≤ ·) w (.slice a n c) (fT (ys.take n)) := by
  have h1 := fls_pre h.a1.p.fo.fls n (by rw [List.length_map]; exact hn)
  rw [← List.map_take] at h1
  exact h1
theorem AG.cut {a : Option Addr} {N c : Nat} {xs : List (Int × Int)} {x : Int × Int} (h : AG w col av ys (.slice a N c) (xs ++ [x]) bv bl kv kl ga f M dv ds wv ws) : CtS w (.slice a xs.length c) xs := by
  have h1 := cts_pre (cts_own h.a2.p) xs.length (by rw [List.length_append]; omega)
  rw [List.take_left'] at h1
  · exact h1
  · rfl
/-- what was there ahead of all lies still -/
theorem col_below {B i : Nat} {F : Nat → Prop} (h : ∀ q, q < B → col q = 0) (hf : IFr w w' F) (hB : B ≤ w.heap.size) (hF : ∀ q, F q → col q = i) (hi : i ≠ 0) : Below B w w' := hf.below B hB fun q e => by
  by_cases hq : q < B
  · have h1 := h q hq
    rw [hF q e] at h1
    exact absurd h1 hi
  · omega
end
theorem row_none (w : World) (B : Nat) (hB : B ≤ w.heap.size) : (w.alloc (.cells #[] 32)).ownsRow B 32 2 (.slice (some ⟨w.heap.size, 0, none⟩) 0 0) 0 [] := by
  have L : LB (w.alloc (.cells #[] 32)) w.heap.size 32 [] := lb_new w [] 32
  exact ⟨rfl, .inr ⟨w.heap.size, 0, _, rfl, hB, L, Nat.le_refl _, by unfold maxLen; omega, rfl, rfl⟩⟩
/-- ahead of the loop -/
theorem AG.start {w W1 W5 W7 W8 W9 : World} {av : Value} {ys : List FX} {cv : Value} {CS : List (Int × Int)} {bv : Value} {bl : List Nat} {kv : Value} {kl : List Nat} {ga f : Nat} {M : Mm} (z1 : w.heap.size ≤ W1.heap.size) (d : DM w.heap.size W1 ga (aS f kl) M) (a : FOA W1.heap.size W5 av ys) (b5 : Below W1.heap.size W1 W5) (c : W7.ownsRow W5.heap.size 32 2 cv CS.length (CS.flatMap enK)) (b7 : Below W5.heap.size W5 W7) (b : Own W7.heap.size W8 bv bl) (b8 : Below W7.heap.size W7 W8) (k : Own W8.heap.size W9 kv kl) (b9 : Below W8.heap.size W8 W9) : ∃ col, AG W9 col av ys cv CS bv bl kv kl ga f M (.slice none 0 0) [] (.slice none 0 0) [] ∧ ∀ q, q < w.heap.size → col q = 0 := by
  have s5 := b5.size
  have s7 := b7.size
  have s8 := b8.size
  have s9 := b9.size
  have B79 := andThen b8 b9
  have B59 := andThen b7 B79
  have B19 := andThen b5 B59
  refine ⟨fun q => if q < w.heap.size then 0 else if q < W1.heap.size then 5 else if q < W5.heap.size then 1 else if q < W7.heap.size then 2 else if q < W8.heap.size then 3 else 4, ⟨co_foa ((a.kept B59).low (Nat.zero_le _)) fun q hq => ?_, co_row (row_low (Mg.row_kept c B79) (Nat.zero_le _)) fun q hq => ?_, co_own ((b.kept b9).mono (Nat.zero_le _)) fun q hq => ?_, co_own (k.mono (Nat.zero_le _)) fun q hq => ?_, co_dm ((d.kept B19).low (Nat.zero_le _)) fun q hq => ?_, co_row (World.ownsRow_nil _ _ _ _) fun q hq => (nomatch hq), co_row (World.ownsRow_nil _ _ _ _) fun q hq => (nomatch hq), fun d hd => (nomatch hd), fun x hx => (nomatch hx)⟩, fun q hq => if_pos hq⟩
  · have h1 := a.ge hq
    have h2 := a.lt hq
    rw [if_neg (by omega), if_neg (by omega), if_pos (by omega)]
  · have h1 := World.ownsRow.lt c q hq
    rw [if_neg (by omega), if_neg (by omega), if_neg (by omega), if_pos (by omega)]
  · have h1 := World.ownsRow.lt b.row q hq
    rw [if_neg (by omega), if_neg (by omega), if_neg (by omega), if_neg (by omega), if_pos (by omega)]
  · have h1 := World.ownsRow.lt k.row q hq
    rw [if_neg (by omega), if_neg (by omega), if_neg (by omega), if_neg (by omega), if_neg (by omega)]
  · have h1 := d.ft hq
    rw [if_neg (by omega), if_pos (by omega)]
/-- one more file, behind -/
theorem foa_behind {B : Nat} {w : World} {o : Value} {xs : List FX} (h : FOA B w o xs) (hB : B ≤ w.heap.size) (hn : xs.length ≤ 100000000) : ∃ (b c : Nat) (W : World), (Builtin.append_ #[22, 22] 22 #[o, .slice (some ⟨(w.alloc (.cells #[.int .u8 77] 5)).heap.size, 0, none⟩) 1 1]).run Try.prog ((w.alloc (.cells #[.int .u8 77] 5)).alloc (.cells #[.string ⟨#[98, 101, 104, 105, 110, 100]⟩, .slice (some ⟨w.heap.size, 0, none⟩) 1 1] 30)) = .ok (.slice (some ⟨b, 0, none⟩) (xs.length + 1) c) W ∧ FOA B W (.slice (some ⟨b, 0, none⟩) (xs.length + 1) c) (xs ++ [(bhN, .slice (some ⟨w.heap.size, 0, none⟩) 1 1, [77])]) ∧ Below B w W ∧ xs.length + 1 ≤ c ∧ c ≤ maxLen := by
  obtain ⟨w1, hw1⟩ : ∃ x, x = w.alloc (.cells #[.int .u8 77] 5) := ⟨_, rfl⟩
  have o1 : Own B w1 (.slice (some ⟨w.heap.size, 0, none⟩) 1 1) [77] := by
    rw [hw1]
    exact Own.lit w [77] (by intro x hx; rw [List.mem_singleton.1 hx]; omega) hB (by unfold maxLen; simp) _ rfl
  have hs : w.heap.size < w1.heap.size := (World.ownsRow.lt o1.row w.heap.size rfl).2
  have b1 : Below w.heap.size w w1 := by rw [hw1]; exact up0 _ _
  rw [← hw1]
  have b2 := up0 w1 (.cells #[.string ⟨#[98, 101, 104, 105, 110, 100]⟩, .slice (some ⟨w.heap.size, 0, none⟩) 1 1] 30)
  have L2 : LB (w1.alloc (.cells #[.string ⟨#[98, 101, 104, 105, 110, 100]⟩, .slice (some ⟨w.heap.size, 0, none⟩) 1 1] 30)) w1.heap.size 30 (enF (bhN, .slice (some ⟨w.heap.size, 0, none⟩) 1 1, [77])) := lb_new w1 [.string ⟨#[98, 101, 104, 105, 110, 100]⟩, .slice (some ⟨w.heap.size, 0, none⟩) 1 1] 30
  obtain ⟨o', W, hr, h2, h3⟩ := ((h.kept b1).kept b2).app 22 (v := .slice (some ⟨w.heap.size, 0, none⟩) 1 1) (fun y hy q e e2 => by
    have h4 := (World.ownsRow.lt (h.fo.own y hy).row q e).2
    have h5 : w.heap.size = q := Option.some.inj e2
    omega) (bhN, .slice (some ⟨w.heap.size, 0, none⟩) 1 1, [77]) (o1.kept b2) w1.heap.size 1 L2 (by omega) (Nat.le_trans hB (Nat.le_trans b1.size b2.size))
  have hw := ((andThen b1 b2).mono hB).trans h3
  rcases h2.fo.row.2 with ⟨e, h0⟩ | ⟨b, c, cur, e, -, -, hc, hm, -⟩
  · rw [List.length_append, List.length_singleton] at h0
    omega
  · rw [List.length_append, List.length_singleton] at e hc
    subst e
    exact ⟨b, c, W, hr, h2, hw, hc, hm⟩
/-- the cuts, and one behind -/
theorem cts_behind {w : World} {a : Option Addr} {c : Nat} {cs : List (Int × Int)} {N : Nat} (hN : N = cs.length) (h : CtS w (.slice a N c) cs) (hl : N ≤ 10000000) :
    ∃ (x : Option Addr) (y z : Nat) (W1 : World), (Builtin.append_ #[24, 24] 24 #[.slice (some ⟨w.heap.size, 0, none⟩) 0 0, .slice a N c]).run Try.prog (w.alloc (.cells #[] 32)) = .ok (.slice x y z) W1 ∧ ∃ (b k : Nat) (W : World), (Builtin.append_ #[24, 24] 24 #[.slice x y z, .slice (some ⟨W1.heap.size, 0, none⟩) 1 1]).run Try.prog (W1.alloc (.cells #[.int .i64 (-77), .int .i64 (-78)] 32)) = .ok (.slice (some ⟨b, 0, none⟩) (N + 1) k) W ∧ W.ownsRow w.heap.size 32 2 (.slice (some ⟨b, 0, none⟩) (N + 1) k) (cs ++ [(-77, -78)]).length ((cs ++ [(-77, -78)]).flatMap enK) ∧ Below w.heap.size w W ∧ N + 1 ≤ k ∧ k ≤ maxLen := by
  subst hN
  have b0 := up0 w (.cells #[] 32)
  obtain ⟨v1, W1, hr1, r1, b1⟩ := cts_row (row_none w w.heap.size (Nat.le_refl _)) (h.kept b0) (by omega) b0.size ⟨_, _, rfl⟩
  have B1 := b0.trans b1
  obtain ⟨a1, c1, rfl, -⟩ := Mg.row_shape r1
  refine ⟨a1, cs.length, c1, W1, hr1, ?_⟩
  obtain ⟨v2, W, hr2, r2, f2, f3, a2, k2, e2⟩ := row_more (en := enK) tiK enK_len r1 (-77, -78) (fun u hu => enK_one _ u hu) (by omega) B1.size
  subst e2
  have hB : Below w.heap.size w W := B1.trans (f2.below w.heap.size B1.size fun q e => (World.ownsRow.lt r1 q e).1)
  rcases r2.2 with ⟨e, h0⟩ | ⟨b, k, cur, e, -, -, hc, hm, -⟩
  · rw [List.length_append, List.length_singleton] at h0
    omega
  · simp only [Value.slice.injEq] at e
    obtain ⟨rfl, -, rfl⟩ := e
    rw [List.length_append, List.length_singleton] at hc
    exact ⟨b, k2, W, hr2, r2, hB, hc, hm⟩
end Go.Proofs.Ytgdfnlbiminblaa
