import Derived.Test.YtceokpklcfmadaaQI9
import Derived.Test.YtceokpklcfmadaaQIA
import Derived.Test.YtceokpklcfmadaaQJ2
import Derived.Test.YtceokpklcfmadaaQR1
/-
  Package index, pure: what Encode writes of rising keys and offsets, Decode reads.
-/
namespace Go.Proofs.Ytceokpklcfmadaa
open Go Go.RowKit Go.ChangeShapes
open Wb

namespace Ix
theorem drop_app {l a r : List Nat} {p : Nat} (h : l.drop p = a ++ r) : l.drop (p + a.length) = r := by
  rw [← List.drop_drop, h, List.drop_left]
theorem nm_fwd (l : List Nat) (p v : Nat) (r : List Nat) (hv : v < 18446744073709551616) (h : l.drop p = Wn.uint v ++ r) : nm l p = (v, p + (Wn.uint v).length, 0) := by
  unfold nm
  rw [h, Wn.rd_uint0 v r hv]
  simp
theorem okO_le : ∀ (xs : List Nat) (f : Bool) (off : Nat), okO f off xs → ∀ x ∈ xs, x ≤ 9223372036854775807
  | [], _, _, _, _, hx => by cases hx
  | y :: r, f, off, h, x, hx => by
    rcases List.mem_cons.1 hx with rfl | hx
    · exact h.2.2.1
    · exact okO_le r false y h.2.2.2 x hx
theorem offP_fwd (l : List Nat) : ∀ (xs : List Nat) (f : Bool) (p off : Nat) (acc r : List Nat), off ≤ 9223372036854775807 → okO f off xs → l.drop p = wrO off xs ++ r → offP l xs.length f p off acc = (0, p + (wrO off xs).length, acc ++ xs)
  | [], f, p, off, acc, r, _, _, _ => by simp [offP, wrO]
  | x :: xs, f, p, off, acc, r, ho, h, hd => by
    obtain ⟨h1, h2, h3, h4⟩ := h
    rw [wrO, List.append_assoc] at hd
    have e := nm_fwd l p (x - off) _ (by omega) hd
    rw [List.length_cons, offP, e]
    simp only [ne_eq, not_true_eq_false, if_false]
    rw [if_neg (by
      rintro (⟨h5, h6⟩ | h5)
      · have := h2 h6
        omega
      · omega)]
    have e2 : off + (x - off) = x := by omega
    rw [e2, offP_fwd l xs false _ x (acc ++ [x]) r h3 h4 (drop_app hd), wrO, List.length_append]
    simp [Nat.add_assoc]
theorem wrK_app (key k : Nat) (xs : List Nat) (r : List (Nat × List Nat)) : wrK key ((k, xs) :: r) = Wn.uint (k - key) ++ (Wn.uint xs.length ++ (wrO 0 xs ++ wrK k r)) := by
  simp [wrK]
theorem offsP_fwd (l : List Nat) (xs : List Nat) (p : Nat) (r : List Nat) (hn : xs ≠ []) (hl : xs.length < 18446744073709551616) (h : okO true 0 xs) (hd : l.drop p = Wn.uint xs.length ++ (wrO 0 xs ++ r)) : offsP l p = (0, p + (Wn.uint xs.length).length + (wrO 0 xs).length, xs) := by
  have e := nm_fwd l p xs.length _ hl hd
  have h0 : xs.length ≠ 0 := fun e => hn (List.eq_nil_of_length_eq_zero e)
  unfold offsP
  rw [e]
  simp only [ne_eq, not_true_eq_false, if_false]
  rw [if_neg h0, offP_fwd l xs true _ 0 [] r (by omega) h (drop_app hd)]
  simp
theorem decP_fwd (l : List Nat) : ∀ (es : List (Nat × List Nat)) (p key : Nat) (kvs : Gm), p ≤ l.length → okK key es → (∀ q ∈ es, q.2.length < 18446744073709551616) → l.drop p = wrK key es → decP l es.length p key kvs = (0, kvs ++ gm es)
  | [], p, key, kvs, hp, _, _, hd => by
    have h1 : p = l.length := by
      have := congrArg List.length hd
      rw [List.length_drop] at this
      simp [wrK] at this
      omega
    rw [List.length_nil, decP, if_pos h1]
    simp [gm]
  | (k, xs) :: r, p, key, kvs, hp, h, hb, hd => by
    obtain ⟨h1, h2, h3, h4, h5⟩ := h
    rw [wrK_app] at hd
    have e1 : keyP l p key = (k, p + (Wn.uint (k - key)).length, 0) := by
      have e := nm_fwd l p (k - key) _ (by omega) hd
      unfold keyP
      rw [e]
      simp only [ne_eq, not_true_eq_false, if_false]
      rw [if_neg (by omega)]
      simp
      omega
    have hd2 := drop_app hd
    have e2 := offsP_fwd l xs _ _ h3 (hb _ List.mem_cons_self) h4 hd2
    have hd3 := drop_app (drop_app hd2)
    have hp2 : p + (Wn.uint (k - key)).length + (Wn.uint xs.length).length + (wrO 0 xs).length ≤ l.length := by
      have := congrArg List.length hd
      rw [List.length_drop] at this
      simp at this
      have := Wn.uint_pos (k - key)
      omega
    rw [List.length_cons, decP, e1]
    simp only [ne_eq, not_true_eq_false, if_false]
    rw [e2]
    simp only [not_true_eq_false, if_false]
    rw [decP_fwd l r _ k _ hp2 h5 (fun q hq => hb q (List.mem_cons_of_mem _ hq)) hd3]
    simp [gm]
/-- the bytes of keys with offsets -/
def wrI (es : List (Nat × List Nat)) : List Nat := Wn.uint es.length ++ wrK 0 es
theorem decode_fwd (es : List (Nat × List Nat)) (h : okK 0 es) (hn : es.length < 18446744073709551616) (hb : ∀ q ∈ es, q.2.length < 18446744073709551616) : decodeP (wrI es) = (0, gm es) := by
  have e := nm_fwd (wrI es) 0 es.length (wrK 0 es) hn rfl
  have hd : (wrI es).drop (0 + (Wn.uint es.length).length) = wrK 0 es := drop_app (a := Wn.uint es.length) rfl
  unfold decodeP
  rw [e]
  simp only [ne_eq, not_true_eq_false, if_false]
  rw [decP_fwd (wrI es) es _ 0 [] (by unfold wrI; simp) h hb hd]
  rfl
theorem gm_rising : ∀ (es : List (Nat × List Nat)) (key : Nat), okK key es → rising (gm es)
  | [], _, _ => List.Pairwise.nil
  | (k, xs) :: r, key, h => by
    refine List.pairwise_cons.2 ⟨fun q hq => ?_, gm_rising r k h.2.2.2.2⟩
    obtain ⟨p, hp, rfl⟩ := List.mem_map.1 hq
    have := okK_lo r k h.2.2.2.2 p hp
    show (k : Int) < (p.1 : Int)
    omega
theorem gm_allE (es : List (Nat × List Nat)) (h : okK 0 es) : allE (gm es) = prs (gm es) := by
  unfold allE within
  rw [List.filter_eq_self.2]
  intro p hp
  obtain ⟨q, hq, rfl⟩ := List.mem_map.1 hp
  have := okK_lo es 0 h q hq
  simp
  omega
/-- Encode writes them -/
theorem encode_fwd (es : List (Nat × List Nat)) (h : okK 0 es) : ∃ k o, encF (gm es) (allE (gm es)) = .ok (wrI es, k, o) := by
  rw [gm_allE es h]
  obtain ⟨k, o, h8⟩ := enc_keys (gm es) es (Wn.uint es.length) 0 0 h fun p hp => by
    rw [get_mem (gm_rising es 0 h) (List.mem_map.2 ⟨p, hp, rfl⟩)]
    simp [nums]
  refine ⟨k, o, ?_⟩
  unfold encF
  have e7 : (gm es).length = es.length := by simp [gm]
  rw [e7]
  exact h8
theorem okO_snoc : ∀ (xs : List Nat) (f : Bool) (off x : Nat), okO f off xs → off ≤ x → (f = false → off < x) → (∀ y ∈ xs, y < x) → x ≤ 9223372036854775807 → okO f off (xs ++ [x])
  | [], _, _, _, _, h1, h2, _, h3 => ⟨h1, h2, h3, trivial⟩
  | y :: r, _, _, x, h, _, _, hy, h3 => ⟨h.1, h.2.1, h.2.2.1, okO_snoc r false y x h.2.2.2 (Nat.le_of_lt (hy y List.mem_cons_self)) (fun _ => hy y List.mem_cons_self) (fun z hz => hy z (List.mem_cons_of_mem _ hz)) h3⟩
theorem okK_snoc : ∀ (es : List (Nat × List Nat)) (key k : Nat) (xs : List Nat), okK key es → key < k → (∀ p ∈ es, p.1 < k) → k ≤ 9223372036854775807 → xs ≠ [] → okO true 0 xs → okK key (es ++ [(k, xs)])
  | [], _, _, _, _, h1, _, h2, h3, h4 => ⟨h1, h2, h3, h4, trivial⟩
  | (k', _) :: r, _, k, xs, h, _, hk, h2, h3, h4 => ⟨h.1, h.2.1, h.2.2.1, h.2.2.2.1, okK_snoc r k' k xs h.2.2.2.2 (hk _ List.mem_cons_self) (fun p hp => hk p (List.mem_cons_of_mem _ hp)) h2 h3 h4⟩
theorem gm_snoc (es : List (Nat × List Nat)) (k : Nat) (xs : List Nat) : gm (es ++ [(k, xs)]) = gm es ++ [((k : Int), nums xs)] := by
  simp [gm]
end Ix
end Go.Proofs.Ytceokpklcfmadaa

/-
  annalsref5: Encode: pure, and what it holds.
-/
namespace Go.Proofs.Ytceokpklcfmadaa
open Go Go.RowKit Go.ChangeShapes
open Wb

namespace Ix
theorem encF_ok_step (kvs : Gm) (pre : List (Int × Int)) (x : Int × Int) (s : List Nat × Int × Int) (h : encF kvs pre = .ok s) : encF kvs (pre ++ [x]) = encS kvs s x := by
  rw [encF_snoc, h]
  rfl
/-- pairs up to the j-th value of the i-th key -/
def upto (kvs : Gm) (i : Nat) (k : Int) (vs : List Int) (j : Nat) : List (Int × Int) := prs (kvs.take i) ++ (vs.take j).map fun v => (k, v)
theorem upto_succ (kvs : Gm) (i : Nat) (k : Int) (vs : List Int) (j : Nat) (hj : j < vs.length) : upto kvs i k vs (j + 1) = upto kvs i k vs j ++ [(k, vs[j])] := by
  unfold upto
  rw [List.take_succ_eq_append_getElem hj, List.map_append, List.append_assoc]
  rfl
theorem upto_full (kvs : Gm) (i : Nat) (k : Int) (vs : List Int) (h : kvs[i]? = some (k, vs)) : upto kvs i k vs vs.length = prs (kvs.take (i + 1)) := by
  obtain ⟨hi, e⟩ := List.getElem?_eq_some_iff.1 h
  unfold upto
  rw [List.take_length, List.take_succ_eq_append_getElem hi, e, prs_append]
  simp [prs]
theorem upto_prefix (kvs : Gm) (i : Nat) (k : Int) (vs : List Int) (j : Nat) (h : kvs[i]? = some (k, vs)) : upto kvs i k vs j <+: prs kvs := by
  obtain ⟨hi, e⟩ := List.getElem?_eq_some_iff.1 h
  have h1 : upto kvs i k vs j <+: prs (kvs.take (i + 1)) := by
    rw [← upto_full kvs i k vs h]
    unfold upto
    rw [List.take_length]
    refine (List.prefix_append_right_inj _).2 ?_
    rw [List.map_take]
    exact List.take_prefix _ _
  refine h1.trans ?_
  have e2 : prs kvs = prs (kvs.take (i + 1)) ++ prs (kvs.drop (i + 1)) := by rw [← prs_append, List.take_append_drop]
  rw [e2]
  exact List.prefix_append _ _
/-- the key that was written last -/
def lastKey (kvs : Gm) : Nat → Int
  | 0 => 0
  | i + 1 => ((kvs[i]?).map (·.1)).getD 0
end Ix
set_option maxRecDepth 100000 in
set_option maxHeartbeats 4000000 in
theorem rixget_own (v : Value) (ps : List (Int × Int)) (k : Int) (w : World) (h : Pr w v ps) (hl : ps.length ≤ 10000000) :
    Calls Try.prog 28 #[v, .int .i64 k] w fun e w' => ∃ v', e = .returned v' ∧ w'.ownsRow w.heap.size 3 1 v' (Ix.vals ps k).length ((Ix.vals ps k).map (Value.int .i64)) ∧ Below w.heap.size w w' := by
  have hin := infoI
  obtain ⟨a, c, rfl, hm1, hm2, hc⟩ := h
  unfold maxLen at hm2
  have HC : Hid (ps ≠ [] → ∃ b off, a = some ⟨b, off, none⟩ ∧ ∀ j (h : j < ps.length), w.cell? ⟨b, off + j * 2, none⟩ = some (.int .i64 ps[j].1) ∧ w.cell? ⟨b, off + j * 2 + 1, none⟩ = some (.int .i64 ps[j].2)) := hc
  clear hc
  go_enter Try.func28, Try.ntmps28
  go_wp2_with fail
  go_loopw [5, 6] (fun o i wr => ∃ j : Nat, j ≤ ps.length ∧ i = .int .i64 (j : Int) ∧ GtS w ps k j o wr) (fun _ i _ => ps.length - (intOf i).toNat)
  case atStart => exact ⟨0, Nat.zero_le _, rfl, ⟨World.ownsRow_nil _ _ _ _, Below.refl _ _⟩⟩
  case round =>
    obtain ⟨j, hj, rfl, hg⟩ := hrel
    have HG : Hid (GtS w ps k j u5 wr) := hg
    clear hg
    by_cases hlt : j < ps.length
    · obtain ⟨b, off, rfl, hcell⟩ := HC.out (List.ne_nil_of_length_pos (by omega))
      have q1 := (HG.out.bel.cell (p := ⟨b, off + j * 2, none⟩) (World.block_lt_of_cell? _ _ (hcell j hlt).1)).trans (hcell j hlt).1
      have q2 := (HG.out.bel.cell (p := ⟨b, off + j * 2 + 1, none⟩) (World.block_lt_of_cell? _ _ (hcell j hlt).2)).trans (hcell j hlt).2
      have HV := Ix.vals_take ps k j hlt
      clear hcell
      by_cases he : ps[j].1 = k
      · rw [if_pos he] at HV
        have HV9 : Hid (Ix.vals (ps.take (j + 1)) k = Ix.vals (ps.take j) k ++ [ps[j].2]) := HV
        rw [he] at q1
        generalize ps[j].2 = z at *
        have HL : Hid ((Ix.vals (ps.take j) k).length ≤ 100000000) := by
          have := Ix.vals_len (ps.take j) k
          rw [List.length_take] at this
          show _ ≤ _
          omega
        have HR : Hid (∀ W, W = wr.alloc (.cells #[.int .i64 z] 3) → W.ownsRow w.heap.size 3 1 u5 (Ix.vals (ps.take j) k).length ((Ix.vals (ps.take j) k).map (Value.int .i64)) ∧ W.cell? ⟨wr.heap.size, 0, none⟩ = some (.int .i64 z) ∧ w.heap.size ≤ W.heap.size ∧ Below w.heap.size w W) := fun W e => by
          subst e
          exact ⟨HG.out.row.alloc _, (lb_new wr [.int .i64 z] 3).cell 0 _ rfl, Nat.le_trans HG.out.bel.size (up0 _ _).size, up HG.out.bel _⟩
        clear HV he
        go_wp2_with (at_builtin; refine wpList_appI _ rfl (.tmp 20) (.tmp 26) 35 rfl w.heap.size hin Try.underlying35 u5 (Ix.vals (ps.take j) k) rfl (HR.out _ rfl).1 wr.heap.size 1 z rfl (HR.out _ rfl).2.1 HL.out (HR.out _ rfl).2.2.1 ?_)
        intro v3 w3 hr3 hg3
        have H3 : Hid (GtS w ps k (j + 1) v3 w3) := by
          refine ⟨by rw [HV9.out, List.length_append, List.map_append]; exact hr3, (HR.out _ rfl).2.2.2.grown hg3 (HR.out _ rfl).2.2.1 fun q e => (World.ownsRow.lt HG.out.row q e).1⟩
        clear hr3 hg3 HR
        go_wp2_with fail
        go_roundw
        case rel => exact ⟨j + 1, by omega, by go_num, H3.out⟩
        case measure => simp [intOf]; omega
      · rw [if_neg he, List.append_nil] at HV
        have H3 : Hid (GtS w ps k (j + 1) u5 wr) := by
          refine ⟨?_, HG.out.bel⟩
          rw [HV]
          exact HG.out.row
        have hd : (ps[j].1 == k) = false := by simpa using he
        generalize ps[j].1 = x at *
        clear HV he q2
        go_wp2_with fail
        go_roundw
        case rel => exact ⟨j + 1, by omega, by go_num, H3.out⟩
        case measure => simp [intOf]; omega
    · have H3 : Hid (wr.ownsRow w.heap.size 3 1 u5 (Ix.vals ps k).length ((Ix.vals ps k).map (Value.int .i64))) := by
        have h9 := HG.out.row
        rw [List.take_of_length_le (by omega)] at h9
        exact h9
      go_wp2_with fail
      go_ret
      exact ⟨_, rfl, H3.out, HG.out.bel⟩
/-- what the reference's Encode answers -/
def RePost (ps : List (Int × Int)) (w : World) (e : Ending) (w' : World) : Prop := Below w.heap.size w w' ∧ ((∃ s, Ix.encF (Ix.gml ps) (prs (Ix.gml ps)) = .ok s ∧ ∃ ad, ∃ m c : Nat, e = .returned (.tuple #[.slice ad m c, .int .i64 0]) ∧ Wb.Own w.heap.size w' (.slice ad m c) s.1) ∨ (∃ (er : Nat) (pre : List (Int × Int)), pre <+: prs (Ix.gml ps) ∧ Ix.encF (Ix.gml ps) pre = .error er ∧ e = .returned (.tuple #[.slice none 0 0, .int .i64 (er : Int)])))
/-- between two keys: the bytes so far -/
def ReO (w : World) (kvs : Ix.Gm) (i : Nat) (ov : Value) (wr : World) : Prop := Below w.heap.size w wr ∧ ∃ (out : List Nat) (off : Int), Ix.encF kvs (prs (kvs.take i)) = .ok (out, Ix.lastKey kvs i, off) ∧ Wb.Own w.heap.size wr ov out ∧ out.length ≤ 10 + 30 * (prs (kvs.take i)).length
theorem ReO.kept {w : World} {kvs : Ix.Gm} {i : Nat} {ov : Value} {wr W : World} (h : ReO w kvs i ov wr) (hb : Below wr.heap.size wr W) : ReO w kvs i ov W := by
  obtain ⟨h1, out, off, e1, e2, e3⟩ := h
  exact ⟨andThen h1 hb, out, off, e1, e2.kept hb, e3⟩
theorem Ix.lastKey_lt (kvs : Ix.Gm) (hr : Ix.rising kvs) (i : Nat) (k : Int) (vs : List Int) (hp : kvs[i]? = some (k, vs)) (hk : 1 ≤ k) : Ix.lastKey kvs i < k := by
  cases i with
  | zero =>
    show (0 : Int) < k
    omega
  | succ j =>
    obtain ⟨hi, e⟩ := List.getElem?_eq_some_iff.1 hp
    have h1 := List.pairwise_iff_getElem.1 hr j (j + 1) (by omega) hi (by omega)
    rw [e] at h1
    rw [Ix.lastKey, List.getElem?_eq_getElem (show j < kvs.length by omega)]
    exact h1
/-- between two values of a key -/
def ReI (w : World) (kvs : Ix.Gm) (i : Nat) (k : Int) (vs : List Int) (hd : List Nat) (j : Nat) (ov : Value) (wr : World) : Prop := Below w.heap.size w wr ∧ ∃ out : List Nat, Wb.Own w.heap.size wr ov out ∧ out.length ≤ 30 + 30 * (Ix.upto kvs i k vs j).length ∧ ((j = 0 ∧ out = hd) ∨ ∃ h : j - 1 < vs.length, 0 < j ∧ Ix.encF kvs (Ix.upto kvs i k vs j) = .ok (out, k, vs[j - 1]) ∧ out.length ≤ 10 + 30 * (Ix.upto kvs i k vs j).length)
theorem ReI.kept {w : World} {kvs : Ix.Gm} {i : Nat} {k : Int} {vs : List Int} {hd : List Nat} {j : Nat} {ov : Value} {wr W : World} (h : ReI w kvs i k vs hd j ov wr) (hb : Below wr.heap.size wr W) : ReI w kvs i k vs hd j ov W := by
  obtain ⟨h1, out, e1, e2, e3⟩ := h
  exact ⟨andThen h1 hb, out, e1.kept hb, e2, e3⟩
/-- a key's values, apart from the bytes -/
def VsS (B : Nat) (gv : Value) (vs : List Int) (ov : Value) (W : World) : Prop := W.ownsRow B 3 1 gv vs.length (vs.map (Value.int .i64)) ∧ ∀ q, gv.ownBlock = some q → ov.ownBlock ≠ some q
theorem VsS.kept {B : Nat} {gv : Value} {vs : List Int} {ov : Value} {W W' : World} (h : VsS B gv vs ov W) (hb : Below W.heap.size W W') : VsS B gv vs ov W' := ⟨h.1.kept (grown_none hb none) (by cases gv.ownBlock <;> simp), h.2⟩
theorem VsS.app {B : Nat} {gv : Value} {vs : List Int} {ov v' : Value} {W W' : World} (h : VsS B gv vs ov W) (hg : W.grownBy W' ov.ownBlock) (hat : v'.ownBlock = ov.ownBlock ∨ v'.ownBlock = some W.heap.size) : VsS B gv vs v' W' := by
  refine ⟨h.1.kept hg ?_, fun q e => ?_⟩
  · cases e : gv.ownBlock with
    | none => exact .inl rfl
    | some q => exact .inr fun e2 => h.2 q e e2.symm
  · rcases hat with e3 | e3
    · rw [e3]
      exact h.2 q e
    · intro e4
      have e5 := Option.some.inj (e3.symm.trans e4)
      have := (World.ownsRow.lt h.1 q e).2
      omega
theorem VsS.cells {B : Nat} {ga : Option Addr} {m gc : Nat} {vs : List Int} {ov : Value} {W : World} (h : VsS B (.slice ga m gc) vs ov W) (j : Nat) (hj : j < vs.length) : ∃ gb go, ga = some ⟨gb, go, none⟩ ∧ W.cell? ⟨gb, go + j, none⟩ = some (.int .i64 vs[j]) ∧ (0 < j → W.cell? ⟨gb, go + (j - 1), none⟩ = some (.int .i64 (vs[j - 1]'(by omega)))) := by
  obtain ⟨a, c, e, -, hc⟩ := Ri.of h.1
  simp only [Value.slice.injEq] at e
  obtain ⟨rfl, -, -⟩ := e
  obtain ⟨gb, go, e1, hcell⟩ := hc (List.ne_nil_of_length_pos (by omega))
  exact ⟨gb, go, e1, hcell j hj, fun _ => hcell (j - 1) (by omega)⟩
end Go.Proofs.Ytceokpklcfmadaa

/-
  Package index, pure: what Encode takes, Decode reads; a key that is dropped.
-/
namespace Go.Proofs.Ytceokpklcfmadaa
open Go Go.RowKit Go.ChangeShapes
open Wb

namespace Ix
/-- the rest of a key's values, once they were taken -/
theorem enc_rest (kvs : Gm) (k : Int) : ∀ (vs : List Int) (out : List Nat) (off : Nat) (s : List Nat × Int × Int), (∀ x ∈ vs, x ≤ 9223372036854775807) → (vs.map fun v => (k, v)).foldlM (encS kvs) (out, k, (off : Int)) = .ok s → ∃ xs, vs = nums xs ∧ okO false off xs
  | [], _, _, _, _, _ => ⟨[], rfl, trivial⟩
  | x :: r, out, off, s, hb, h => by
    have h0 : (do let s' ← encS kvs (out, k, (off : Int)) (k, x); List.foldlM (encS kvs) s' (r.map fun v => (k, v))) = Except.ok s := h
    unfold encS at h0
    by_cases h1 : k < 1
    · rw [if_pos h1] at h0
      cases h0
    · rw [if_neg h1, if_neg (by simp)] at h0
      by_cases h2 : x ≤ (off : Int)
      · rw [if_pos h2] at h0
        cases h0
      · rw [if_neg h2] at h0
        have hx : ((x.toNat : Nat) : Int) = x := by omega
        have h3 : (r.map fun v => (k, v)).foldlM (encS kvs) (out ++ Wn.uint (u64 (x - (off : Int))), k, ((x.toNat : Nat) : Int)) = .ok s := by rw [hx]; exact h0
        obtain ⟨xs, e1, e2⟩ := enc_rest kvs k r _ x.toNat s (fun y hy => hb y (List.mem_cons_of_mem _ hy)) h3
        have hbx := hb x List.mem_cons_self
        exact ⟨x.toNat :: xs, by rw [e1]; simp only [nums, List.map_cons]; rw [hx], by omega, fun _ => by omega, by omega, e2⟩
theorem enc_es (kvs : Gm) : ∀ (rs : Gm) (out : List Nat) (key : Nat) (off : Int) (s : List Nat × Int × Int), rising rs → (∀ p ∈ rs, (key : Int) < p.1) → (∀ p ∈ rs, p.2 ≠ [] ∧ p.1 ≤ 9223372036854775807 ∧ ∀ x ∈ p.2, x ≤ 9223372036854775807) → (prs rs).foldlM (encS kvs) (out, (key : Int), off) = .ok s → ∃ es, rs = gm es ∧ okK key es
  | [], _, _, _, _, _, _, _, _ => ⟨[], rfl, trivial⟩
  | (k, []) :: r, _, _, _, _, _, _, hb, _ => absurd rfl (hb _ List.mem_cons_self).1
  | (k, x :: vs) :: r, out, key, off, s, hr, hk, hb, h => by
    have hkk : (key : Int) < k := hk _ List.mem_cons_self
    have hb0 := hb _ List.mem_cons_self
    simp only at hb0
    unfold rising at hr
    rw [List.pairwise_cons] at hr
    have e0 : prs ((k, x :: vs) :: r) = (k, x) :: ((vs.map fun v => (k, v)) ++ prs r) := by simp [prs]
    rw [e0, List.foldlM_cons] at h
    have h0 : (do let s' ← encS kvs (out, (key : Int), off) (k, x); List.foldlM (encS kvs) s' ((vs.map fun v => (k, v)) ++ prs r)) = Except.ok s := h
    unfold encS at h0
    rw [if_neg (by show ¬ k < 1; omega), if_pos (by show k ≠ (key : Int); omega)] at h0
    by_cases h2 : x < 0
    · rw [if_pos h2] at h0
      cases h0
    · rw [if_neg h2] at h0
      have hx : ((x.toNat : Nat) : Int) = x := by omega
      have hk9 : ((k.toNat : Nat) : Int) = k := by omega
      generalize out ++ Wn.uint (u64 (k - (key : Int))) ++ Wn.uint (get kvs k).length ++ Wn.uint (u64 (x - 0)) = out1 at h0
      have h3 : List.foldlM (encS kvs) (out1, k, x) ((vs.map fun v => (k, v)) ++ prs r) = Except.ok s := h0
      rw [List.foldlM_append] at h3
      cases h4 : List.foldlM (encS kvs) (out1, k, x) (vs.map fun v => (k, v)) with
      | error e =>
        rw [h4] at h3
        cases h3
      | ok s1 =>
        rw [h4] at h3
        obtain ⟨xs, e1, e2⟩ := enc_rest kvs k vs out1 x.toNat s1 (fun y hy => hb0.2.2 y (List.mem_cons_of_mem _ hy)) (by rw [hx]; exact h4)
        have hs1 : s1.2.1 = k := enc_key kvs k vs (out1, k, x) s1 rfl h4
        obtain ⟨o1, k1, f1⟩ := s1
        simp only at hs1
        subst hs1
        have h5 : (prs r).foldlM (encS kvs) (o1, ((k1.toNat : Nat) : Int), f1) = .ok s := by rw [hk9]; exact h3
        obtain ⟨es, e3, e4⟩ := enc_es kvs r o1 k1.toNat f1 s hr.2 (fun p hp => by rw [hk9]; exact hr.1 p hp) (fun p hp => hb p (List.mem_cons_of_mem _ hp)) h5
        have hbx := hb0.2.2 x List.mem_cons_self
        refine ⟨(k1.toNat, x.toNat :: xs) :: es, ?_, by omega, by omega, by simp, ⟨by omega, (fun e => by cases e), by omega, e2⟩, e4⟩
        rw [e3, e1]
        simp only [gm, List.map_cons, nums]
        rw [hk9, hx]
where
  enc_key (kvs : Gm) (k : Int) : ∀ (vs : List Int) (s0 s : List Nat × Int × Int), s0.2.1 = k → (vs.map fun v => (k, v)).foldlM (encS kvs) s0 = .ok s → s.2.1 = k
    | [], s0, s, e, h => by
      cases h
      exact e
    | x :: r, s0, s, e, h => by
      have h0 : (do let s' ← encS kvs s0 (k, x); List.foldlM (encS kvs) s' (r.map fun v => (k, v))) = Except.ok s := h
      cases h1 : encS kvs s0 (k, x) with
      | error e => rw [h1] at h0; cases h0
      | ok s1 =>
        rw [h1] at h0
        refine enc_key kvs k r s1 s ?_ h0
        unfold encS at h1
        split at h1
        · cases h1
        · split at h1
          · split at h1
            · cases h1
            · cases h1; rfl
          · split at h1
            · cases h1
            · cases h1; exact e
/-- what Encode takes is made of keys and offsets that Decode reads as they were -/
theorem encF_es (kvs : Gm) (s : List Nat × Int × Int) (hr : rising kvs) (hb : ∀ p ∈ kvs, p.2 ≠ [] ∧ p.1 ≤ 9223372036854775807 ∧ ∀ x ∈ p.2, x ≤ 9223372036854775807) (h : encF kvs (prs kvs) = .ok s) : ∃ es, kvs = gm es ∧ okK 0 es ∧ s.1 = wrI es := by
  have hk : ∀ p ∈ kvs, ((0 : Nat) : Int) < p.1 := fun p hp => by
    cases kvs with
    | nil => cases hp
    | cons q r =>
      have hq : 0 < q.1 := by
        obtain ⟨k, vs⟩ := q
        cases vs with
        | nil => exact absurd rfl (hb _ List.mem_cons_self).1
        | cons x vs =>
          by_cases h1 : k < 1
          · unfold encF at h
            have e0 : prs ((k, x :: vs) :: r) = (k, x) :: ((vs.map fun v => (k, v)) ++ prs r) := by simp [prs]
            rw [e0, List.foldlM_cons] at h
            unfold encS at h
            rw [if_pos h1] at h
            cases h
          · show 0 < k
            omega
      unfold rising at hr
      rw [List.pairwise_cons] at hr
      rcases List.mem_cons.1 hp with rfl | hp
      · exact hq
      · have := hr.1 p hp
        show (0 : Int) < p.1
        omega
  obtain ⟨es, e1, e2⟩ := enc_es kvs kvs (Wn.uint kvs.length) 0 0 s hr hk hb h
  refine ⟨es, e1, e2, ?_⟩
  obtain ⟨k, o, e3⟩ := encode_fwd es e2
  rw [gm_allE es e2, ← e1, h] at e3
  cases e3
  rfl
end Ix
end Go.Proofs.Ytceokpklcfmadaa
