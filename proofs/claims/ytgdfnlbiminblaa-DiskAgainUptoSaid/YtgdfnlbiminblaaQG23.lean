import Derived.Test.YtgdfnlbiminblaaQG22
/-
  DiskAgain: the walk's state, and what each call does to it.
-/
namespace Go.Proofs.Ytgdfnlbiminblaa
open Go Go.RowKit Go.ChangeShapes
open Wb
open Rd
/-- the loop's memory, and what it says -/
def DG (w : World) (fs : List (List UInt8 × List Nat)) (cs : List (Int × Int)) (ga f : Nat) (av cv bv : Value) (L kn dn : Nat) (kv dv wv : Value) (wr : World) : Prop := ∃ ys bl kl M ds ws col, AG wr col av ys cv (cs ++ [(-77, -78)]) bv bl kv kl ga f M dv ds wv ws ∧ Okf fs ys ∧ bl.length = L ∧ kl.length = kn ∧ DWo 1048576 ds ws ∧ ds.length = dn ∧ (∀ q, q < w.heap.size → col q = 0) ∧ Below w.heap.size w wr
theorem DG.kept {w : World} {fs : List (List UInt8 × List Nat)} {cs : List (Int × Int)} {ga f : Nat} {av cv bv : Value} {L kn dn : Nat} {kv dv wv : Value} {wr W : World} (h : DG w fs cs ga f av cv bv L kn dn kv dv wv wr) (hb : Below wr.heap.size wr W) : DG w fs cs ga f av cv bv L kn dn kv dv wv W := by
  obtain ⟨ys, bl, kl, M, ds, ws, col, h1, h2, h3, h4, h5, h6, h7, h8⟩ := h
  exact ⟨ys, bl, kl, M, ds, ws, col, h1.kept hb, h2, h3, h4, h5, h6, h7, andThen h8 hb⟩
/-- the disk has taken the buffer, the book not yet -/
def DH (w : World) (fs : List (List UInt8 × List Nat)) (cs : List (Int × Int)) (ga f : Nat) (av cv bv : Value) (L kn dn : Nat) (kv dv wv : Value) (wr : World) : Prop := ∃ ys bl kl M ds ws col, AH wr col av ys cv (cs ++ [(-77, -78)]) bv bl kv kl (kl ++ bl) ga f M dv ds wv ws ∧ Okf fs ys ∧ bl.length = L ∧ kl.length = kn ∧ DWo 1048576 ds ws ∧ ds.length = dn ∧ (∀ q, q < w.heap.size → col q = 0) ∧ Below w.heap.size w wr
section
variable {w : World} {fs : List (List UInt8 × List Nat)} {cs : List (Int × Int)} {ga f : Nat} {av cv bv : Value} {L kn dn : Nat} {kv dv wv : Value} {wr W : World}
theorem DH.kept (h : DH w fs cs ga f av cv bv L kn dn kv dv wv wr) (hb : Below wr.heap.size wr W) : DH w fs cs ga f av cv bv L kn dn kv dv wv W := by
  obtain ⟨ys, bl, kl, M, ds, ws, col, h1, h2, h3, h4, h5, h6, h7, h8⟩ := h
  exact ⟨ys, bl, kl, M, ds, ws, col, h1.kept hb, h2, h3, h4, h5, h6, h7, andThen h8 hb⟩
theorem DG.below (h : DG w fs cs ga f av cv bv L kn dn kv dv wv wr) : Below w.heap.size w wr := by
  obtain ⟨ys, bl, kl, M, ds, ws, col, h1, h2, h3, h4, h5, h6, h7, h8⟩ := h
  exact h8
/-- the buffer is appended to the file -/
theorem DG.append (h : DG w fs cs ga f av cv bv L kn dn kv dv wv wr) (hl : kn + L ≤ 4194304) : Calls Try.prog 14 #[.pointer (some ⟨ga, 0, none⟩), .string ⟨#[122]⟩, bv] wr fun e w' => e = .returned (.int .i64 0) ∧ DH w fs cs ga f av cv bv L kn dn kv dv wv w' := by
  obtain ⟨ys, bl, kl, M, ds, ws, col, h1, h2, h3, h4, h5, h6, h7, h8⟩ := h
  obtain ⟨a1, a2⟩ := aS_app f kl bl (by omega)
  refine (dkappend_any 0 ga (aS f kl) M ⟨#[122]⟩ bv bl wr h1.a5.p (Nat.zero_le _) (show (1 : Nat) ≤ maxLen by unfold maxLen; omega) (fun e => by cases e) (fun p hp => ?_) h1.a3.p.bs (fun _ q hq e => ?_) ⟨?_, ?_, Int.le_refl _⟩ (fun g hg => ?_)).mono fun e w' ⟨e1, e2⟩ => ?_
  · rw [List.mem_singleton.1 (show p ∈ [(Dk.Z, f)] from hp)]
    exact List.mem_singleton.2 rfl
  · obtain ⟨off, n, c, rfl⟩ := hq
    have c3 := h1.a3.c q rfl
    rw [h1.a5.c q e] at c3
    cases c3
  · show (0 : Int) ≤ (kl.length : Int)
    omega
  · show (kl.length : Int) ≤ 4194304
    omega
  · rw [List.mem_singleton.1 (show g ∈ [f] from hg), aS_fo]
    show kl.length ≤ _
    omega
  · have e3 : DPost 0 ga (aS f kl) M wr (aS f (kl ++ bl)) w' := by
      rw [← a2]
      exact e2
    obtain ⟨M', h9, fr⟩ := h1.appH e3
    refine ⟨e1.trans (by rw [show Dk.appE (aS f kl) (⟨#[122]⟩ : ByteArray).data.toList bl = 0 from a1]), ys, bl, kl, M', ds, ws, _, h9, h2, h3, h4, h5, h6, fun q hq => (nc_old (Nat.lt_of_lt_of_le hq h8.size)).trans (h7 q hq), h8.trans (col_below h7 fr h8.size (fun q e => h1.a5.c q e) (by decide))⟩
/-- and to the book -/
theorem DH.book (h : DH w fs cs ga f av cv bv L kn dn kv dv wv wr) (hl : kn + L ≤ 4194304) : ∃ v' W', (Builtin.append_ #[23, 23] 23 #[kv, bv]).run Try.prog wr = .ok v' W' ∧ DG w fs cs ga f av cv bv L (kn + L) dn v' dv wv W' ∧ ∃ a c, v' = .slice a (kn + L) c := by
  obtain ⟨ys, bl, kl, M, ds, ws, col, h1, h2, h3, h4, h5, h6, h7, h8⟩ := h
  obtain ⟨v', W', hr, g, fr, a, c, e⟩ := h1.book (by omega)
  exact ⟨v', W', hr, ⟨ys, bl, kl ++ bl, M, ds, ws, _, g, h2, h3, by rw [List.length_append]; omega, h5, h6, fun q hq => (nc_old (Nat.lt_of_lt_of_le hq h8.size)).trans (h7 q hq), h8.trans (col_below h7 fr h8.size (fun q e => h1.a4.c q e) (by decide))⟩, a, c, by rw [← h4, ← h3]; exact e⟩
/-- what the disk reads is what the book holds -/
theorem DG.read (h : DG w fs cs ga f av cv bv L kn dn kv dv wv wr) (hl : kn ≤ 4194304) : Calls Try.prog 15 #[.pointer (some ⟨ga, 0, none⟩), .string ⟨#[122]⟩] wr fun e w' => ∃ v, e = .returned (.tuple #[v, .int .i64 0]) ∧ (∃ l, Bs w' v l ∧ Bs w' kv l) ∧ Below wr.heap.size wr w' := by
  obtain ⟨ys, bl, kl, M, ds, ws, col, h1, h2, h3, h4, h5, h6, h7, h8⟩ := h
  refine (dkread_any 0 ga (aS f kl) M ⟨#[122]⟩ wr h1.a5.p (show (1 : Nat) ≤ maxLen by unfold maxLen; omega) (fun p hp => ?_) (fun g hg => ?_)).mono fun e w' ⟨v, e1, e2, e3⟩ => ?_
  · rw [List.mem_singleton.1 (show p ∈ [(Dk.Z, f)] from hp)]
    exact List.mem_singleton.2 rfl
  · rw [List.mem_singleton.1 (show g ∈ [f] from hg), aS_fo]
    show kl.length ≤ _
    omega
  · have e4 : Own wr.heap.size w' v kl := by
      rw [← aS_read f kl]
      exact e2
    exact ⟨v, e1.trans (by rw [show Dk.findE (aS f kl) (⟨#[122]⟩ : ByteArray).data.toList = (0, some f) from aS_find f kl]), ⟨kl, e4.bs, (h1.a4.kept e3).p.bs⟩, e3⟩
end
section
variable {B : Nat} {w : World} {v : Value} {l : List Nat}
/-- a row of bytes that is not empty: its cells -/
theorem own_cells (h : Own B w v l) (hl : 0 < l.length) : ∃ g c, v = .slice (some ⟨g, 0, none⟩) l.length c ∧ ∀ p, p < l.length → (∃ z : Int, w.cell? ⟨g, p, none⟩ = some (.int .u8 z)) ∧ w.frozen? ⟨g, p, none⟩ = false := by
  rcases h.shape with ⟨-, e⟩ | ⟨g, c, e, -, -, -, -, h6⟩
  · rw [e] at hl
    cases hl
  · subst e
    exact ⟨g, c, rfl, fun p hp => ⟨⟨_, h6 p hp⟩, World.ownsRow.frozenAt h.row p⟩⟩
end
theorem cell_blk {w w' : World} {b : Nat} (h : w'.heap[b]? = w.heap[b]?) (o : Nat) : w'.cell? ⟨b, o, none⟩ = w.cell? ⟨b, o, none⟩ := by
  simp only [World.cell?]
  rw [h]
theorem enF_len (x : FX) : (enF x).length = 2 := rfl
section
variable {w : World} {fs : List (List UInt8 × List Nat)} {cs : List (Int × Int)} {ga f : Nat} {av cv bv : Value} {L kn dn : Nat} {kv dv wv : Value} {wr W : World}
/-- the buffer: a byte is another -/
theorem DG.buf {xb : Option Addr} {zb : Nat} (h : DG w fs cs ga f av cv (.slice xb L zb) L kn dn kv dv wv wr) (hL : 0 < L) : ∃ g, xb = some ⟨g, 0, none⟩ ∧ w.heap.size ≤ g ∧ ∀ p, p < L → ∀ W, Below wr.heap.size wr W → (∃ z : Int, W.cell? ⟨g, p, none⟩ = some (.int .u8 z)) ∧ W.frozen? ⟨g, p, none⟩ = false ∧ ∀ b : Nat, b < 256 → DG w fs cs ga f av cv (.slice xb L zb) L kn dn kv dv wv (W.setCell ⟨g, p, none⟩ (.int .u8 (b : Int))) := by
  obtain ⟨ys, bl, kl, M, ds, ws, col, h1, h2, h3, h4, h5, h6, h7, h8⟩ := h
  subst h3
  obtain ⟨g, c, e, -⟩ := own_cells h1.a3.p hL
  simp only [Value.slice.injEq, true_and] at e
  obtain ⟨rfl, rfl⟩ := e
  have hg : col g = 3 := h1.a3.c g rfl
  refine ⟨g, rfl, ?_, fun p hp W hW => ?_⟩
  · rcases Nat.lt_or_ge g w.heap.size with hlt | hge
    · rw [h7 g hlt] at hg
      cases hg
    · exact hge
  · have k1 := h1.kept hW
    obtain ⟨g2, c2, e2, hc2⟩ := own_cells k1.a3.p hL
    simp only [Value.slice.injEq, Option.some.injEq, Addr.mk.injEq, and_true, true_and] at e2
    obtain ⟨rfl, -⟩ := e2
    refine ⟨(hc2 p hp).1, (hc2 p hp).2, fun b hb => ⟨ys, bl.set p b, kl, M, ds, ws, col, k1.putB p b hb, h2, by rw [List.length_set], h4, h5, h6, h7, ?_⟩⟩
    have hs : IFr W (W.setCell ⟨g, p, none⟩ (.int .u8 (b : Int))) (· = g) := ⟨rfl, rfl, rfl, by rw [size_set1]; exact Nat.le_refl _, fun k _ hn => set_other _ _ _ _ hn⟩
    exact (andThen h8 hW).trans (col_below (i := 3) h7 hs (andThen h8 hW).size (fun q e => by rw [e]; exact hg) (by decide))
/-- a file: a byte is another -/
theorem DG.file {bA N cA : Nat} (h : DG w fs cs ga f (.slice (some ⟨bA, 0, none⟩) N cA) cv bv L kn dn kv dv wv wr) (k : Nat) (hk : k < fs.length) : ∃ (va : Option Addr) (len vc : Nat), len ≤ Dk.flen fs ∧ (∀ W, Below wr.heap.size wr W → W.cell? ⟨bA, k * 2 + 1, none⟩ = some (.slice va len vc)) ∧ (0 < len → ∃ g, va = some ⟨g, 0, none⟩ ∧ w.heap.size ≤ g ∧ g ≠ bA ∧ ∀ p, p < len → ∀ W, Below wr.heap.size wr W → (∃ z : Int, W.cell? ⟨g, p, none⟩ = some (.int .u8 z)) ∧ W.frozen? ⟨g, p, none⟩ = false ∧ ∀ b : Nat, b < 256 → DG w fs cs ga f (.slice (some ⟨bA, 0, none⟩) N cA) cv bv L kn dn kv dv wv (W.setCell ⟨g, p, none⟩ (.int .u8 (b : Int)))) := by
  obtain ⟨ys, bl, kl, M, ds, ws, col, h1, h2, h3, h4, h5, h6, h7, h8⟩ := h
  have hky : k < ys.length := by
    have := h2.len
    omega
  have hx : ys[k]? = some ys[k] := List.getElem?_eq_getElem hky
  obtain ⟨x, hxe⟩ : ∃ x, x = ys[k] := ⟨_, rfl⟩
  rw [← hxe] at hx
  have hxm : x ∈ ys := List.mem_of_getElem? hx
  have ho := h1.a1.p.fo.own x hxm
  obtain ⟨va, vc, hv, -, -⟩ := Mg.row_shape ho.row
  refine ⟨va, x.2.2.length, vc, ?_, fun W hW => ?_, fun hpos => ?_⟩
  · have h9 := h2.flen
    have h10 : (x.1, x.2.2) ∈ fT (ys.take fs.length) := by
      unfold fT
      refine List.mem_map.2 ⟨x, ?_, rfl⟩
      refine List.mem_of_getElem? (i := k) ?_
      rw [List.getElem?_take, if_pos hk]
      exact hx
    have := flen_mem _ h10
    rw [h9] at this
    exact this
  · obtain ⟨b, c, e, hc⟩ := row_read (en := enF) enF_len (h1.kept hW).a1.p.fo.row k x hx 1 x.2.1 rfl
    simp only [Value.slice.injEq, Option.some.injEq, Addr.mk.injEq, and_true] at e
    obtain ⟨rfl, -, -⟩ := e
    rw [hc, hv]
  · obtain ⟨g, c, e, -⟩ := own_cells ho hpos
    rw [e] at hv
    simp only [Value.slice.injEq, true_and] at hv
    obtain ⟨rfl, rfl⟩ := hv
    have hob : x.2.1.ownBlock = some g := by
      rw [e]
      rfl
    have hg : col g = 1 := h1.a1.c g (.inr ⟨x, hxm, hob⟩)
    refine ⟨g, rfl, ?_, fun e9 => ?_, fun p hp W hW => ?_⟩
    · rcases Nat.lt_or_ge g w.heap.size with hlt | hge
      · rw [h7 g hlt] at hg
        cases hg
      · exact hge
    · exact h1.a1.p.kinds hxm (q := bA) rfl (by rw [hob, e9])
    · have k1 := h1.kept hW
      have ho1 := k1.a1.p.fo.own x hxm
      obtain ⟨g2, c2, e2, hc2⟩ := own_cells ho1 hpos
      rw [e] at e2
      simp only [Value.slice.injEq, Option.some.injEq, Addr.mk.injEq, and_true, true_and] at e2
      obtain ⟨rfl, -⟩ := e2
      refine ⟨(hc2 p hp).1, (hc2 p hp).2, fun b hb => ⟨_, bl, kl, M, ds, ws, col, k1.putA k x hx e p b hb, h2.set hx hk p b, h3, h4, h5, h6, h7, ?_⟩⟩
      have hs : IFr W (W.setCell ⟨g, p, none⟩ (.int .u8 (b : Int))) (· = g) := ⟨rfl, rfl, rfl, by rw [size_set1]; exact Nat.le_refl _, fun k _ hn => set_other _ _ _ _ hn⟩
      exact (andThen h8 hW).trans (col_below (i := 1) h7 hs (andThen h8 hW).size (fun q e => by rw [e]; exact hg) (by decide))
/-- a disk that was made ahead holds what it held -/
theorem DG.disk {oa : Option Addr} {dc : Nat} {wa : Option Addr} {wc : Nat} (h : DG w fs cs ga f av cv bv L kn dn kv (.slice oa dn dc) (.slice wa dn wc) wr) (k : Nat) (hk : k < dn) : ∃ (bd bw g : Nat) (xa : Option Addr) (xn xc : Nat), oa = some ⟨bd, 0, none⟩ ∧ wa = some ⟨bw, 0, none⟩ ∧ ∀ W, Below wr.heap.size wr W → W.cell? ⟨bd, k, none⟩ = some (.pointer (some ⟨g, 0, none⟩)) ∧ W.cell? ⟨bw, k, none⟩ = some (.slice xa xn xc) ∧ Calls Try.prog 18 #[.pointer (some ⟨g, 0, none⟩)] W fun e w' => ∃ v, e = .returned v ∧ Below W.heap.size W w' ∧ ∀ W2, Below w'.heap.size w' W2 → Calls Try.prog 10 #[v, .slice xa xn xc] W2 fun e w'' => e = .returned (.bool true) ∧ Below W2.heap.size W2 w'' := by
  obtain ⟨ys, bl, kl, M, ds, ws, col, h1, h2, h3, h4, h5, h6, h7, h8⟩ := h
  subst h6
  have hkw : k < ws.length := by
    have := h5.1
    omega
  have hd : ds[k]? = some ds[k] := List.getElem?_eq_getElem hk
  have hx : ws[k]? = some ws[k] := List.getElem?_eq_getElem hkw
  obtain ⟨d, hde⟩ : ∃ d, d = ds[k] := ⟨_, rfl⟩
  obtain ⟨x, hxe⟩ : ∃ x, x = ws[k] := ⟨_, rfl⟩
  rw [← hde] at hd
  rw [← hxe] at hx
  obtain ⟨w1, w2⟩ := h5.2 k d x hd hx
  obtain ⟨b1, c1, e1, r1⟩ := row_read (en := enD) (fun _ => rfl) h1.a6.p k d hd 0 _ rfl
  obtain ⟨b2, c2, e2, r2⟩ := row_read (en := enW) (fun _ => rfl) h1.a7.p k x hx 0 _ rfl
  simp only [Value.slice.injEq] at e1 e2
  obtain ⟨rfl, -, rfl⟩ := e1
  obtain ⟨rfl, -, rfl⟩ := e2
  have hfx := h1.a9 x (List.mem_of_getElem? hx)
  obtain ⟨xa, xc, ex, -, -⟩ := Mg.row_shape hfx.p.fo.row
  rw [Nat.mul_one, Nat.add_zero] at r1 r2
  refine ⟨b1, b2, d.1, xa, x.2.length, xc, rfl, rfl, fun W hW => ⟨?_, ?_, ?_⟩⟩
  · exact (hW.cell (p := ⟨b1, k, none⟩) (World.block_lt_of_cell? _ _ r1)).trans r1
  · rw [← ex]
    exact (hW.cell (p := ⟨b2, k, none⟩) (World.block_lt_of_cell? _ _ r2)).trans r2
  · have hdm := ((h1.a8 d (List.mem_of_getElem? hd)).kept hW).p
    refine (dkfiles_wf 0 d.1 d.2.1 d.2.2 1048576 W hdm w1 (by omega)).mono fun e w' ⟨v, e1, e2, e3⟩ => ⟨v, e1, e3, fun W2 hW2 => ?_⟩
    have hf2 := ((hfx.kept hW).kept e3).kept hW2
    have hf3 := hf2.p.fo.fls
    rw [show (x.2.map fun x => (x.1, x.2.2)) = Dk.files d.2.1 from w2] at hf3
    rw [← ex]
    exact dlfalike_yes _ _ _ _ _ W2 (e2.kept hW2) hf3
/-- what stands behind -/
theorem DG.beh {bA n cA bC m kC : Nat} (h : DG w fs cs ga f (.slice (some ⟨bA, 0, none⟩) (n + 1) cA) (.slice (some ⟨bC, 0, none⟩) (m + 1) kC) bv L kn dn kv dv wv wr) (hn : n = fs.length) (hm : m = cs.length) (hn2 : n ≤ 1048576) (hm2 : m ≤ 1048576) : Calls Try.prog 19 #[.slice (some ⟨bA, 0, none⟩) (n + 1) cA, .int .i64 (n : Int), .slice (some ⟨bC, 0, none⟩) (m + 1) kC, .int .i64 (m : Int)] wr fun e w' => e = .returned (.bool true) ∧ w' = wr := by
  obtain ⟨ys, bl, kl, M, ds, ws, col, h1, h2, h3, h4, h5, h6, h7, h8⟩ := h
  obtain ⟨vb, hvb⟩ := h2.bh
  rw [← hn] at hvb
  have hr := h1.a1.p.fo.row
  obtain ⟨b1, c1, e1, r1⟩ := row_read (en := enF) enF_len hr n _ hvb 0 _ rfl
  obtain ⟨b2, c2, e2, r2⟩ := row_read (en := enF) enF_len hr n _ hvb 1 _ rfl
  simp only [Value.slice.injEq, Option.some.injEq, Addr.mk.injEq, and_true] at e1 e2
  obtain ⟨rfl, -, -⟩ := e1
  obtain ⟨rfl, -, -⟩ := e2
  have ho := h1.a1.p.fo.own _ (List.mem_of_getElem? hvb)
  have hov : Own 0 wr vb [77] := ho
  obtain ⟨g, c, ev, -⟩ := own_cells hov (by simp)
  have hx : (cs ++ [(-77, -78)])[m]? = some (-77, -78) := by
    rw [hm, List.getElem?_append_right (Nat.le_refl _), Nat.sub_self]
    rfl
  obtain ⟨b3, c3, e3, r3⟩ := row_read (en := enK) enK_len h1.a2.p m _ hx 0 _ rfl
  obtain ⟨b4, c4, e4, r4⟩ := row_read (en := enK) enK_len h1.a2.p m _ hx 1 _ rfl
  simp only [Value.slice.injEq, Option.some.injEq, Addr.mk.injEq, and_true] at e3 e4
  obtain ⟨rfl, -, -⟩ := e3
  obtain ⟨rfl, -, -⟩ := e4
  rw [ev] at hov
  have r5 : wr.cell? ⟨g, 0, none⟩ = some (.int .u8 77) := by
    have h9 := World.ownsRow.cellAt hov.row 0 (by simp)
    exact h9
  have r2' : wr.cell? ⟨bA, n * 2 + 1, none⟩ = some (.slice (some ⟨g, 0, none⟩) 1 c) := by
    rw [r2]
    exact congrArg some ev
  exact dlbehind_any bA g bC n m (n + 1) (m + 1) cA kC c wr (by omega) (by omega) (by omega) (by omega) r1 r2' r5 r3 r4
end
end Go.Proofs.Ytgdfnlbiminblaa
