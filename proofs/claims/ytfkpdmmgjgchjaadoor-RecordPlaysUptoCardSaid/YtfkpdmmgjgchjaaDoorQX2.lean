import Derived.Test.YtfkpdmmgjgchjaaDoorQK2
import Derived.Test.YtfkpdmmgjgchjaaDoorQW2
import Derived.Test.YtfkpdmmgjgchjaaDoorQX1
/-
  The reference's record: put, read.
-/
namespace Go.Proofs.YtfkpdmmgjgchjaaDoor
open Go Go.RowKit
open Wb

set_option maxRecDepth 100000 in
set_option maxHeartbeats 4000000 in
theorem refput_any (x : Nums) (nm : ByteArray) (ao : Option Addr) (n cap : Nat) (t : Nat) (z : Int) (w : World) (h1 : 1 ≤ t) (h9 : t ≤ 9) :
    Calls Tryd.prog 79 #[rv x nm (.slice ao n cap), .int .i64 (t : Int), .int .i64 z] w fun e w' => e = .returned (rv (x.put t z) nm (.slice ao n cap)) ∧ Below w.heap.size w w' := by
  unfold rv
  obtain rfl | rfl | rfl | rfl | rfl | rfl | rfl | rfl | rfl : t = 1 ∨ t = 2 ∨ t = 3 ∨ t = 4 ∨ t = 5 ∨ t = 6 ∨ t = 7 ∨ t = 8 ∨ t = 9 := by omega
  all_goals
    simp only [Nums.put, if_true, if_false, Nat.reduceEqDiff]
    go_enter Tryd.func79, Tryd.ntmps79
    go_wp2
    go_returns
    exact ⟨rfl, by go_grown⟩
theorem put_ofV (x : Nums) (t : Nat) (z v : Int) : (x.put t z).ofV v = (x.ofV v).put t z := by
  unfold Nums.put Nums.ofV
  repeat' split
  all_goals rfl
/-- what the reference's read answers: where it ends, the error, the fields -/
def rrd (b : List Nat) (p : Int) (t : Nat) (q : Pts) : Int × Nat × Pts := if (t = 7 ∨ t = 10 ∨ t = 11) ∨ (rn b p).2.2 = 0 then rdp b p t q else (0, (rn b p).2.2, q)
theorem rrd_err (b : List Nat) (p : Int) (t : Nat) (q : Pts) : (rrd b p t q).2.1 = (rdp b p t q).2.1 := by
  unfold rrd
  split
  · rfl
  · rename_i h
    have h7 : ¬ t = 7 := fun e => h (.inl (.inl e))
    have h10 : ¬ t = 10 := fun e => h (.inl (.inr (.inl e)))
    have h11 : ¬ t = 11 := fun e => h (.inl (.inr (.inr e)))
    unfold rdp
    rw [if_neg h7, if_neg h10, if_neg h11]
theorem rrd_ok (b : List Nat) (p : Int) (t : Nat) (q : Pts) (h : (rdp b p t q).2.1 = 0) : rrd b p t q = rdp b p t q := by
  have h2 := rrd_err b p t q
  rw [h] at h2
  unfold rrd at h2 ⊢
  split
  · rfl
  · rename_i hh
    rw [if_neg hh] at h2
    exact absurd (.inr h2) hh
/-- a struct's cell and two slots as results -/
theorem results_cell_two {P : Program} {fn : Func} {p s s2 : Tmp} {ty : TypeId} (h : fn.results = #[.cell p ty, .tmp s, .tmp s2]) (tmps : Array Value) (w : World) (g : Nat) (cs : List Value) (d : TypeDesc)
    (hp : tmps.getD p undef = .pointer (some ⟨g, 0, none⟩)) (hc : w.rangeAt g 0 cs) (hu : P.underlying ty = some d) (hd : d.isRow = true) (hi : (P.info? ty).map (·.size) = some cs.length) :
    (results fn tmps).run P w = .ok (.tuple #[.agg cs.toArray, tmps.getD s undef, tmps.getD s2 undef]) w := by
  have hp' : tmps[p]?.getD undef = .pointer (some ⟨g, 0, none⟩) := by simpa using hp
  simp [results, h, hp', asAddr, run_loadVar_mid w g 0 ty cs d hc hu hd hi]
/-- data that does not lie in block g -/
def OffB (g : Nat) (d : Value) (l : List Nat) : Prop := l ≠ [] → ∀ b off n cap, d = .slice (some ⟨b, off, none⟩) n cap → b ≠ g
theorem bs_offB {w : World} {d : Value} {l : List Nat} (h : Bs w d l) (g o : Nat) (vs : List Value) (ho : OffB g d l) : Bs (w.setCells g o vs) d l := by
  obtain ⟨⟨ao, cap, h1, h2, h3, h4, h5⟩, hok⟩ := h
  refine ⟨⟨ao, cap, h1, h2, h3, h4, fun hne => ?_⟩, hok⟩
  obtain ⟨b, off, hb, hc⟩ := h5 hne
  refine ⟨b, off, hb, fun j hj => ?_⟩
  have hbg : b ≠ g := ho hne b off l.length cap (by rw [h1, hb])
  have e := cells_other g vs o w b hbg
  have hcj := hc j hj
  unfold World.cell? at hcj ⊢
  simp only at hcj ⊢
  rw [e]
  exact hcj
theorem offB_of {w : World} {d : Value} {l : List Nat} (h : Bs w d l) (g : Nat) (hg : w.heap.size ≤ g) : OffB g d l := fun hne b off n cap e => by
  obtain ⟨ao', cap', e', _, _, _, hc⟩ := h.shape
  obtain ⟨b', off', e2, hcell⟩ := hc hne
  rw [e', e2] at e
  simp at e
  have := World.block_lt_of_cell? _ _ (hcell 0 (List.length_pos_iff.2 hne))
  simp at this
  omega
theorem offB_own {B : Nat} {w : World} {d : Value} {l : List Nat} (h : Own B w d l) (g : Nat) (hg : g < B) : OffB g d l := fun hne b off n cap e => by
  rcases h.shape with ⟨_, h0⟩ | ⟨g', cap', e', hB, _, _⟩
  · exact absurd h0 hne
  · rw [e'] at e
    simp at e
    omega
set_option maxRecDepth 100000 in
set_option maxHeartbeats 4000000 in
theorem refread_7 (v : Int) (q : Pts) (d bv : Value) (b : List Nat) (p : Int) (w : World) (h : Bs w d q.l) (hb : Bs w bv b) (hlen : b.length ≤ 140737488355328) :
    Calls Tryd.prog 64 #[rv (q.x.ofV v) (bstr q.nm) d, .int .i64 ((7 : Nat) : Int), bv, .int .i64 p] w fun e w' => ∃ ao, ∃ cap : Nat, e = .returned (.tuple #[rv ((rrd b p 7 q).2.2.x.ofV v) (bstr (rrd b p 7 q).2.2.nm) (.slice ao (rrd b p 7 q).2.2.l.length cap), .int .i64 (rrd b p 7 q).1, .int .i64 ((rrd b p 7 q).2.1 : Int)]) ∧ Bs w' (.slice ao (rrd b p 7 q).2.2.l.length cap) (rrd b p 7 q).2.2.l ∧ (∀ g, g < w.heap.size → OffB g d q.l → OffB g (.slice ao (rrd b p 7 q).2.2.l.length cap) (rrd b p 7 q).2.2.l) ∧ Below w.heap.size w w' := by
  have HIR : Hid ((Tryd.prog.info? 24).map (·.size) = some 12) := infoRec
  have HX : Hid (∀ o1 o2, ((w.alloc o1).alloc o2).heap[w.heap.size]? = some o1 ∧ ((w.alloc o1).alloc o2).heap[w.heap.size + 1]? = some o2 ∧ Below w.heap.size w ((w.alloc o1).alloc o2)) := fun o1 o2 => heap2 w o1 o2
  have HB : Hid (∀ w', Below w.heap.size w w' → Bs w' d q.l ∧ Bs w' bv b) := fun w' hb' => ⟨h.kept hb', hb.kept hb'⟩
  have HO1 : Hid (OffB (w.heap.size + 1) d q.l) := offB_of h _ (Nat.le_succ _)
  have HE : Hid (rrd b p 7 q = ((ri b p).2.1, (ri b p).2.2, { q with x := q.x.put 7 (ri b p).1 })) := by show _ = _; unfold rrd; rw [if_pos (.inl (.inl rfl))]; rfl
  rw [HE.out]
  simp only
  rw [put_ofV]
  have HRI : Hid (∀ w', Below w.heap.size w w' → Calls Tryd.prog 78 #[bv, .int .i64 p] w' fun e w'' => e = .returned (.tuple #[.int .i64 (ri b p).1, .int .i64 (ri b p).2.1, .int .i64 ((ri b p).2.2 : Int)]) ∧ w' = w'') := fun w' hb' => rri_any bv b p w' (hb.kept hb') hlen
  obtain ⟨ao, cap, rfl, _⟩ := h.shape
  obtain ⟨ab, cb, rfl, _⟩ := hb.shape
  clear h hb HE
  have HPU : Hid (∀ w', Calls Tryd.prog 79 #[rv (q.x.ofV v) (bstr q.nm) (.slice ao q.l.length cap), .int .i64 7, .int .i64 (ri b p).1] w' fun e w'' => e = .returned (rv ((q.x.ofV v).put 7 (ri b p).1) (bstr q.nm) (.slice ao q.l.length cap)) ∧ Below w'.heap.size w' w'') := fun w' => refput_any (q.x.ofV v) (bstr q.nm) ao q.l.length cap 7 _ w' (by omega) (by omega)
  generalize (q.x.ofV v).put 7 (ri b p).1 = Y at *
  generalize (ri b p).1 = r1 at *
  generalize (ri b p).2.1 = r2 at *
  generalize (ri b p).2.2 = r3 at *
  generalize q.x.ofV v = X at *
  unfold rv at *
  go_enter Tryd.func64, Tryd.ntmps64
  go_wp2_with fail
  refine (HRI.out _ (HX.out _ _).2.2).mono ?_
  rintro e w2 ⟨rfl, rfl⟩
  go_wp2_with fail
  refine (HPU.out _).mono ?_
  rintro e w3 ⟨rfl, b3⟩
  have hz : Box w3 (w.heap.size + 1) zeroNums ⟨#[]⟩ (.slice none 0 0) := Box.kept (HX.out _ _).2.1 b3
  have BW := andThen (HX.out _ _).2.2 b3
  clear b3 HX HRI HPU
  obtain ⟨z0, z1, z2, z3, z4, z5, z6, z7, z8, z9, z10, z11⟩ := hz.cells
  have f0 := hz.free' 0
  have f1 := hz.free' 1
  have f2 := hz.free' 2
  have f3 := hz.free' 3
  have f4 := hz.free' 4
  have f5 := hz.free' 5
  have f6 := hz.free' 6
  have f7 := hz.free' 7
  have f8 := hz.free' 8
  have f9 := hz.free' 9
  have f10 := hz.free' 10
  have f11 := hz.free' 11
  have HTH : Hid (w3.there (w.heap.size + 1) 0 12) := hz.there
  have HBF : Hid (Bs (w3.setCells (w.heap.size + 1) 0 [.int .i64 Y.v, .int .i64 Y.k, .int .i64 Y.s, .int .i64 Y.p, .int .i64 Y.t, .int .i64 Y.a, .int .i64 Y.l, .int .i64 Y.c, .int .i64 Y.n, .int .i64 Y.i, .string (bstr q.nm), .slice ao q.l.length cap]) (.slice ao q.l.length cap) (q.l) ∧ Below w.heap.size w (w3.setCells (w.heap.size + 1) 0 [.int .i64 Y.v, .int .i64 Y.k, .int .i64 Y.s, .int .i64 Y.p, .int .i64 Y.t, .int .i64 Y.a, .int .i64 Y.l, .int .i64 Y.c, .int .i64 Y.n, .int .i64 Y.i, .string (bstr q.nm), .slice ao q.l.length cap])) := ⟨bs_offB (HB.out _ BW).1 _ _ _ HO1.out, below_cells (by omega) _ 0 _ BW⟩
  clear hz BW HB HO1
  go_wp2
  have HRG := World.rangeAt_setCells_same w3 (w.heap.size + 1) 0 [.int .i64 Y.v, .int .i64 Y.k, .int .i64 Y.s, .int .i64 Y.p, .int .i64 Y.t, .int .i64 Y.a, .int .i64 Y.l, .int .i64 Y.c, .int .i64 Y.n, .int .i64 Y.i, .string (bstr q.nm), .slice ao q.l.length cap] HTH.out
  refine bodyPost_ret (results_cell_two (p := 8) (s := 9) (s2 := 10) (ty := 24) rfl _ _ (w.heap.size + 1) [.int .i64 Y.v, .int .i64 Y.k, .int .i64 Y.s, .int .i64 Y.p, .int .i64 Y.t, .int .i64 Y.a, .int .i64 Y.l, .int .i64 Y.c, .int .i64 Y.n, .int .i64 Y.i, .string (bstr q.nm), .slice ao q.l.length cap] _ rfl HRG Tryd.underlying24 rfl HIR.out) rfl ?_
  exact ⟨ao, cap, rfl, HBF.out.1, fun _ _ h => h, HBF.out.2⟩
end Go.Proofs.YtfkpdmmgjgchjaaDoor

/-
  The reference's record: read, all tags.
-/
namespace Go.Proofs.YtfkpdmmgjgchjaaDoor
open Go Go.RowKit
open Wb

set_option maxRecDepth 100000 in
set_option maxHeartbeats 4000000 in
theorem refread_10 (v : Int) (q : Pts) (d bv : Value) (b : List Nat) (p : Int) (w : World) (h : Bs w d q.l) (hb : Bs w bv b) (hlen : b.length ≤ 140737488355328) :
    Calls Tryd.prog 64 #[rv (q.x.ofV v) (bstr q.nm) d, .int .i64 ((10 : Nat) : Int), bv, .int .i64 p] w fun e w' => ∃ ao, ∃ cap : Nat, e = .returned (.tuple #[rv ((rrd b p 10 q).2.2.x.ofV v) (bstr (rrd b p 10 q).2.2.nm) (.slice ao (rrd b p 10 q).2.2.l.length cap), .int .i64 (rrd b p 10 q).1, .int .i64 ((rrd b p 10 q).2.1 : Int)]) ∧ Bs w' (.slice ao (rrd b p 10 q).2.2.l.length cap) (rrd b p 10 q).2.2.l ∧ (∀ g, g < w.heap.size → OffB g d q.l → OffB g (.slice ao (rrd b p 10 q).2.2.l.length cap) (rrd b p 10 q).2.2.l) ∧ Below w.heap.size w w' := by
  have HIR : Hid ((Tryd.prog.info? 24).map (·.size) = some 12) := infoRec
  have HX : Hid (∀ o1 o2, ((w.alloc o1).alloc o2).heap[w.heap.size]? = some o1 ∧ ((w.alloc o1).alloc o2).heap[w.heap.size + 1]? = some o2 ∧ Below w.heap.size w ((w.alloc o1).alloc o2)) := fun o1 o2 => heap2 w o1 o2
  have HB : Hid (∀ w', Below w.heap.size w w' → Bs w' d q.l ∧ Bs w' bv b) := fun w' hb' => ⟨h.kept hb', hb.kept hb'⟩
  have HO1 : Hid (OffB (w.heap.size + 1) d q.l) := offB_of h _ (Nat.le_succ _)
  have HE : Hid (rrd b p 10 q = ((rb b p 192).2.1, (rb b p 192).2.2, { q with nm := (rb b p 192).1 })) := by show _ = _; unfold rrd; rw [if_pos (.inl (.inr (.inl rfl)))]; rfl
  rw [HE.out]
  simp only
  have HRB : Hid (∀ w', Below w.heap.size w w' → Calls Tryd.prog 80 #[bv, .int .i64 p, .int .i64 192] w' fun e w'' => ∃ az, ∃ cz : Nat, e = .returned (.tuple #[.slice az (rb b p 192).1.length cz, .int .i64 (rb b p 192).2.1, .int .i64 ((rb b p 192).2.2 : Int)]) ∧ Own w'.heap.size w'' (.slice az (rb b p 192).1.length cz) (rb b p 192).1 ∧ Below w'.heap.size w' w'') := fun w' hb' => (rrb_any bv b p 192 w' (hb.kept hb') hlen (by decide)).mono fun e w'' ⟨v', he, ho, hk⟩ => by
    obtain ⟨az, cz, rfl, _⟩ := ho.bs.shape
    exact ⟨az, cz, he, ho, hk⟩
  have HO0 : Hid (OffB w.heap.size d q.l) := offB_of h _ (Nat.le_refl _)
  obtain ⟨ao, cap, rfl, _⟩ := h.shape
  obtain ⟨ab, cb, rfl, _⟩ := hb.shape
  clear h hb HE
  generalize (rb b p 192).1 = r1 at *
  generalize (rb b p 192).2.1 = r2 at *
  generalize (rb b p 192).2.2 = r3 at *
  generalize q.x.ofV v = X at *
  unfold rv at *
  go_enter Tryd.func64, Tryd.ntmps64
  go_wp2_with fail
  refine (HRB.out _ (HX.out _ _).2.2).mono ?_
  rintro e w3 ⟨az, cz, rfl, ho3, b3⟩
  have hz : Box w3 (w.heap.size + 1) zeroNums ⟨#[]⟩ (.slice none 0 0) := Box.kept (HX.out _ _).2.1 b3
  have hx : Box w3 w.heap.size X (bstr q.nm) (.slice ao q.l.length cap) := Box.kept (HX.out _ _).1 b3
  have BW := andThen (HX.out _ _).2.2 b3
  have HO3 : Hid (Own (w.heap.size + 2) w3 (.slice az r1.length cz) r1) := ho3.mono (by rw [heap_one, heap_one]; omega)
  have hcv := conv_bs ho3.bs
  have HTH : Hid ((w3.setCell ⟨w.heap.size, 10, none⟩ (.string (bstr r1))).there (w.heap.size + 1) 0 12) := (hz.set _ _ (by simp)).there
  have HBF : Hid (Bs ((w3.setCell ⟨w.heap.size, 10, none⟩ (.string (bstr r1))).setCells (w.heap.size + 1) 0 [.int .i64 X.v, .int .i64 X.k, .int .i64 X.s, .int .i64 X.p, .int .i64 X.t, .int .i64 X.a, .int .i64 X.l, .int .i64 X.c, .int .i64 X.n, .int .i64 X.i, .string (bstr r1), .slice ao q.l.length cap]) (.slice ao q.l.length cap) (q.l) ∧ Below w.heap.size w ((w3.setCell ⟨w.heap.size, 10, none⟩ (.string (bstr r1))).setCells (w.heap.size + 1) 0 [.int .i64 X.v, .int .i64 X.k, .int .i64 X.s, .int .i64 X.p, .int .i64 X.t, .int .i64 X.a, .int .i64 X.l, .int .i64 X.c, .int .i64 X.n, .int .i64 X.i, .string (bstr r1), .slice ao q.l.length cap])) := ⟨bs_offB (bs_offB (HB.out _ BW).1 w.heap.size 10 [.string (bstr r1)] (HO0.out)) _ _ _ HO1.out, below_cells (by omega) _ 0 _ (Below.setCell BW (Nat.le_refl _) _)⟩
  obtain ⟨c0, c1, c2, c3, c4, c5, c6, c7, c8, c9, c10, c11⟩ := hx.cells
  obtain ⟨e0, e1, e2, e3, e4, e5, e6, e7, e8, e9, e10, e11⟩ := hz.cells
  have gx := hx.free' 10
  have f0 := hz.free' 0
  have f1 := hz.free' 1
  have f2 := hz.free' 2
  have f3 := hz.free' 3
  have f4 := hz.free' 4
  have f5 := hz.free' 5
  have f6 := hz.free' 6
  have f7 := hz.free' 7
  have f8 := hz.free' 8
  have f9 := hz.free' 9
  have f10 := hz.free' 10
  have f11 := hz.free' 11
  clear hz hx BW b3 ho3 HX HRB HO1 HB
  go_wp2
  have HRG := World.rangeAt_setCells_same (w3.setCell ⟨w.heap.size, 10, none⟩ (.string (bstr r1))) (w.heap.size + 1) 0 [.int .i64 X.v, .int .i64 X.k, .int .i64 X.s, .int .i64 X.p, .int .i64 X.t, .int .i64 X.a, .int .i64 X.l, .int .i64 X.c, .int .i64 X.n, .int .i64 X.i, .string (bstr r1), .slice ao q.l.length cap] HTH.out
  refine bodyPost_ret (results_cell_two (p := 8) (s := 9) (s2 := 10) (ty := 24) rfl _ _ (w.heap.size + 1) [.int .i64 X.v, .int .i64 X.k, .int .i64 X.s, .int .i64 X.p, .int .i64 X.t, .int .i64 X.a, .int .i64 X.l, .int .i64 X.c, .int .i64 X.n, .int .i64 X.i, .string (bstr r1), .slice ao q.l.length cap] _ rfl HRG Tryd.underlying24 rfl HIR.out) rfl ?_
  exact ⟨ao, cap, rfl, HBF.out.1, fun _ _ h => h, HBF.out.2⟩
set_option maxRecDepth 100000 in
set_option maxHeartbeats 4000000 in
theorem refread_11 (v : Int) (q : Pts) (d bv : Value) (b : List Nat) (p : Int) (w : World) (h : Bs w d q.l) (hb : Bs w bv b) (hlen : b.length ≤ 140737488355328) :
    Calls Tryd.prog 64 #[rv (q.x.ofV v) (bstr q.nm) d, .int .i64 ((11 : Nat) : Int), bv, .int .i64 p] w fun e w' => ∃ ao, ∃ cap : Nat, e = .returned (.tuple #[rv ((rrd b p 11 q).2.2.x.ofV v) (bstr (rrd b p 11 q).2.2.nm) (.slice ao (rrd b p 11 q).2.2.l.length cap), .int .i64 (rrd b p 11 q).1, .int .i64 ((rrd b p 11 q).2.1 : Int)]) ∧ Bs w' (.slice ao (rrd b p 11 q).2.2.l.length cap) (rrd b p 11 q).2.2.l ∧ (∀ g, g < w.heap.size → OffB g d q.l → OffB g (.slice ao (rrd b p 11 q).2.2.l.length cap) (rrd b p 11 q).2.2.l) ∧ Below w.heap.size w w' := by
  have HIR : Hid ((Tryd.prog.info? 24).map (·.size) = some 12) := infoRec
  have HX : Hid (∀ o1 o2, ((w.alloc o1).alloc o2).heap[w.heap.size]? = some o1 ∧ ((w.alloc o1).alloc o2).heap[w.heap.size + 1]? = some o2 ∧ Below w.heap.size w ((w.alloc o1).alloc o2)) := fun o1 o2 => heap2 w o1 o2
  have HB : Hid (∀ w', Below w.heap.size w w' → Bs w' d q.l ∧ Bs w' bv b) := fun w' hb' => ⟨h.kept hb', hb.kept hb'⟩
  have HO1 : Hid (OffB (w.heap.size + 1) d q.l) := offB_of h _ (Nat.le_succ _)
  have HE : Hid (rrd b p 11 q = ((rb b p 16384).2.1, (rb b p 16384).2.2, { q with l := (rb b p 16384).1 })) := by show _ = _; unfold rrd; rw [if_pos (.inl (.inr (.inr rfl)))]; rfl
  rw [HE.out]
  simp only
  have HRB : Hid (∀ w', Below w.heap.size w w' → Calls Tryd.prog 80 #[bv, .int .i64 p, .int .i64 16384] w' fun e w'' => ∃ az, ∃ cz : Nat, e = .returned (.tuple #[.slice az (rb b p 16384).1.length cz, .int .i64 (rb b p 16384).2.1, .int .i64 ((rb b p 16384).2.2 : Int)]) ∧ Own w'.heap.size w'' (.slice az (rb b p 16384).1.length cz) (rb b p 16384).1 ∧ Below w'.heap.size w' w'') := fun w' hb' => (rrb_any bv b p 16384 w' (hb.kept hb') hlen (by decide)).mono fun e w'' ⟨v', he, ho, hk⟩ => by
    obtain ⟨az, cz, rfl, _⟩ := ho.bs.shape
    exact ⟨az, cz, he, ho, hk⟩
  obtain ⟨ao, cap, rfl, _⟩ := h.shape
  obtain ⟨ab, cb, rfl, _⟩ := hb.shape
  clear h hb HE
  generalize (rb b p 16384).1 = r1 at *
  generalize (rb b p 16384).2.1 = r2 at *
  generalize (rb b p 16384).2.2 = r3 at *
  generalize q.x.ofV v = X at *
  unfold rv at *
  go_enter Tryd.func64, Tryd.ntmps64
  go_wp2_with fail
  refine (HRB.out _ (HX.out _ _).2.2).mono ?_
  rintro e w3 ⟨az, cz, rfl, ho3, b3⟩
  have hz : Box w3 (w.heap.size + 1) zeroNums ⟨#[]⟩ (.slice none 0 0) := Box.kept (HX.out _ _).2.1 b3
  have hx : Box w3 w.heap.size X (bstr q.nm) (.slice ao q.l.length cap) := Box.kept (HX.out _ _).1 b3
  have BW := andThen (HX.out _ _).2.2 b3
  have HO3 : Hid (Own (w.heap.size + 2) w3 (.slice az r1.length cz) r1) := ho3.mono (by rw [heap_one, heap_one]; omega)
  have HTH : Hid ((w3.setCell ⟨w.heap.size, 11, none⟩ (.slice az r1.length cz)).there (w.heap.size + 1) 0 12) := (hz.set _ _ (by simp)).there
  have HBF : Hid (Bs ((w3.setCell ⟨w.heap.size, 11, none⟩ (.slice az r1.length cz)).setCells (w.heap.size + 1) 0 [.int .i64 X.v, .int .i64 X.k, .int .i64 X.s, .int .i64 X.p, .int .i64 X.t, .int .i64 X.a, .int .i64 X.l, .int .i64 X.c, .int .i64 X.n, .int .i64 X.i, .string (bstr q.nm), .slice az r1.length cz]) (.slice az r1.length cz) (r1) ∧ Below w.heap.size w ((w3.setCell ⟨w.heap.size, 11, none⟩ (.slice az r1.length cz)).setCells (w.heap.size + 1) 0 [.int .i64 X.v, .int .i64 X.k, .int .i64 X.s, .int .i64 X.p, .int .i64 X.t, .int .i64 X.a, .int .i64 X.l, .int .i64 X.c, .int .i64 X.n, .int .i64 X.i, .string (bstr q.nm), .slice az r1.length cz])) := ⟨(Own.cells (Own.set HO3.out ⟨w.heap.size, 11, none⟩ _ (show w.heap.size < w.heap.size + 2 by omega)) (w.heap.size + 1) 0 _ (by omega)).bs, below_cells (by omega) _ 0 _ (Below.setCell BW (Nat.le_refl _) _)⟩
  obtain ⟨c0, c1, c2, c3, c4, c5, c6, c7, c8, c9, c10, c11⟩ := hx.cells
  obtain ⟨e0, e1, e2, e3, e4, e5, e6, e7, e8, e9, e10, e11⟩ := hz.cells
  have gx := hx.free' 11
  have f0 := hz.free' 0
  have f1 := hz.free' 1
  have f2 := hz.free' 2
  have f3 := hz.free' 3
  have f4 := hz.free' 4
  have f5 := hz.free' 5
  have f6 := hz.free' 6
  have f7 := hz.free' 7
  have f8 := hz.free' 8
  have f9 := hz.free' 9
  have f10 := hz.free' 10
  have f11 := hz.free' 11
  clear hz hx BW b3 ho3 HX HRB HO1 HB
  go_wp2
  have HRG := World.rangeAt_setCells_same (w3.setCell ⟨w.heap.size, 11, none⟩ (.slice az r1.length cz)) (w.heap.size + 1) 0 [.int .i64 X.v, .int .i64 X.k, .int .i64 X.s, .int .i64 X.p, .int .i64 X.t, .int .i64 X.a, .int .i64 X.l, .int .i64 X.c, .int .i64 X.n, .int .i64 X.i, .string (bstr q.nm), .slice az r1.length cz] HTH.out
  refine bodyPost_ret (results_cell_two (p := 8) (s := 9) (s2 := 10) (ty := 24) rfl _ _ (w.heap.size + 1) [.int .i64 X.v, .int .i64 X.k, .int .i64 X.s, .int .i64 X.p, .int .i64 X.t, .int .i64 X.a, .int .i64 X.l, .int .i64 X.c, .int .i64 X.n, .int .i64 X.i, .string (bstr q.nm), .slice az r1.length cz] _ rfl HRG Tryd.underlying24 rfl HIR.out) rfl ?_
  exact ⟨az, cz, rfl, HBF.out.1, fun g hg _ => offB_own HO3.out g (by omega), HBF.out.2⟩
set_option maxRecDepth 100000 in
set_option maxHeartbeats 4000000 in
theorem refread_n (v : Int) (q : Pts) (d bv : Value) (b : List Nat) (p : Int) (t : Nat) (w : World) (h : Bs w d q.l) (hb : Bs w bv b) (hlen : b.length ≤ 140737488355328) (h1 : 1 ≤ t) (h9 : t ≤ 9) (h7 : t ≠ 7) :
    Calls Tryd.prog 64 #[rv (q.x.ofV v) (bstr q.nm) d, .int .i64 (t : Int), bv, .int .i64 p] w fun e w' => ∃ ao, ∃ cap : Nat, e = .returned (.tuple #[rv ((rrd b p t q).2.2.x.ofV v) (bstr (rrd b p t q).2.2.nm) (.slice ao (rrd b p t q).2.2.l.length cap), .int .i64 (rrd b p t q).1, .int .i64 ((rrd b p t q).2.1 : Int)]) ∧ Bs w' (.slice ao (rrd b p t q).2.2.l.length cap) (rrd b p t q).2.2.l ∧ (∀ g, g < w.heap.size → OffB g d q.l → OffB g (.slice ao (rrd b p t q).2.2.l.length cap) (rrd b p t q).2.2.l) ∧ Below w.heap.size w w' := by
  have HIR : Hid ((Tryd.prog.info? 24).map (·.size) = some 12) := infoRec
  have HX : Hid (∀ o1 o2, ((w.alloc o1).alloc o2).heap[w.heap.size]? = some o1 ∧ ((w.alloc o1).alloc o2).heap[w.heap.size + 1]? = some o2 ∧ Below w.heap.size w ((w.alloc o1).alloc o2)) := fun o1 o2 => heap2 w o1 o2
  have HB : Hid (∀ w', Below w.heap.size w w' → Bs w' d q.l ∧ Bs w' bv b) := fun w' hb' => ⟨h.kept hb', hb.kept hb'⟩
  have HO1 : Hid (OffB (w.heap.size + 1) d q.l) := offB_of h _ (Nat.le_succ _)
  have hru := rru_any bv b p
  unfold tup3 at hru
  have HRU : Hid (∀ w', Below w.heap.size w w' → Calls Tryd.prog 63 #[bv, .int .i64 p] w' fun e w'' => e = .returned (.tuple #[.int .u64 ((Wn.ru b p).1 : Int), .int .i64 (Wn.ru b p).2.1, .int .i64 ((Wn.ru b p).2.2 : Int)]) ∧ w' = w'') := fun w' hb' => hru w' (hb.kept hb') hlen
  clear hru
  have HE : Hid (rrd b p t q = if (rn b p).2.2 = 0 then ((rn b p).2.1, (rn b p).2.2, { q with x := q.x.put t (rn b p).1 }) else (0, (rn b p).2.2, q)) := by
    show _ = _
    unfold rrd
    by_cases hn : (rn b p).2.2 = 0
    · rw [if_pos (.inr hn), if_pos hn]
      unfold rdp
      rw [if_neg h7, if_neg (by omega), if_neg (by omega)]
    · rw [if_neg (by rintro (h | h); omega; exact hn h), if_neg hn]
  have HRN : Hid (rn b p = if (Wn.ru b p).2.2 ≠ 0 then (0, 0, (Wn.ru b p).2.2) else if 9223372036854775807 < (Wn.ru b p).1 then (0, 0, 34) else (((Wn.ru b p).1 : Int), (Wn.ru b p).2.1, 0)) := rfl
  obtain ⟨ao, cap, rfl, _⟩ := h.shape
  obtain ⟨ab, cb, rfl, _⟩ := hb.shape
  clear h hb
  have e7 : ((t : Int) == 7) = false := by rw [beq_eq_false_iff_ne]; omega
  have e10 : ((t : Int) == 10) = false := by rw [beq_eq_false_iff_ne]; omega
  have e11 : ((t : Int) == 11) = false := by rw [beq_eq_false_iff_ne]; omega
  have HPU : Hid (∀ z w', Calls Tryd.prog 79 #[rv (q.x.ofV v) (bstr q.nm) (.slice ao q.l.length cap), .int .i64 (t : Int), .int .i64 z] w' fun e w'' => e = .returned (rv ((q.x.put t z).ofV v) (bstr q.nm) (.slice ao q.l.length cap)) ∧ Below w'.heap.size w' w'') := fun z w' => by
    have := refput_any (q.x.ofV v) (bstr q.nm) ao q.l.length cap t z w' h1 h9
    rw [← put_ofV] at this
    exact this
  generalize Wn.ru b p = R at *
  obtain ⟨ra, rb', rc⟩ := R
  simp only at HRU HRN
  by_cases hc : rc = 0
  · subst hc
    by_cases hbig : 9223372036854775807 < ra
    · have HR : Hid (rrd b p t q = (0, 34, q)) := by
        show _ = _
        have hrn : rn b p = (0, 0, 34) := by rw [HRN.out, if_neg (by simp), if_pos hbig]
        rw [HE.out, hrn]
        rfl
      rw [HR.out]
      obtain ⟨zi, hzi⟩ : ∃ zi : Int, (ra : Int) = zi := ⟨_, rfl⟩
      have hzb : 9223372036854775807 < zi := by omega
      rw [hzi] at HRU
      clear HR HE HRN HPU hbig hzi
      generalize q.x.ofV v = X at *
      unfold rv at *
      go_enter Tryd.func64, Tryd.ntmps64
      go_wp2_with fail
      refine (HRU.out _ (HX.out _ _).2.2).mono ?_
      rintro e w2 ⟨rfl, rfl⟩
      go_wp2
      go_returns
      exact ⟨ao, cap, rfl, (HB.out _ (by go_grown)).1, fun _ _ h => h, by go_grown⟩
    · have HR : Hid (rrd b p t q = (rb', 0, { q with x := q.x.put t (ra : Int) })) := by
        show _ = _
        have hrn : rn b p = ((ra : Int), rb', 0) := by rw [HRN.out, if_neg (by simp), if_neg hbig]
        rw [HE.out, hrn]
        rfl
      rw [HR.out]
      simp only
      obtain ⟨zi, hzi⟩ : ∃ zi : Int, (ra : Int) = zi := ⟨_, rfl⟩
      have hzb : zi ≤ 9223372036854775807 := by omega
      have hz0 : 0 ≤ zi := by omega
      rw [hzi] at HRU
      rw [hzi]
      have HPZ : Hid (∀ w', Calls Tryd.prog 79 #[rv (q.x.ofV v) (bstr q.nm) (.slice ao q.l.length cap), .int .i64 (t : Int), .int .i64 zi] w' fun e w'' => e = .returned (rv ((q.x.put t zi).ofV v) (bstr q.nm) (.slice ao q.l.length cap)) ∧ Below w'.heap.size w' w'') := fun w' => HPU.out zi w'
      clear HR HE HRN HPU hbig hzi
      generalize (q.x.put t zi).ofV v = Y at *
      generalize q.x.ofV v = X at *
      unfold rv at *
      go_enter Tryd.func64, Tryd.ntmps64
      go_wp2_with fail
      refine (HRU.out _ (HX.out _ _).2.2).mono ?_
      rintro e w2 ⟨rfl, rfl⟩
      go_wp2_with fail
      refine (HPZ.out _).mono ?_
      rintro e w3 ⟨rfl, b3⟩
      have hz : Box w3 (w.heap.size + 1) zeroNums ⟨#[]⟩ (.slice none 0 0) := Box.kept (HX.out _ _).2.1 b3
      have BW := andThen (HX.out _ _).2.2 b3
      clear b3 HX HRU HPZ
      obtain ⟨z0, z1, z2, z3, z4, z5, z6, z7, z8, z9, z10, z11⟩ := hz.cells
      have f0 := hz.free' 0
      have f1 := hz.free' 1
      have f2 := hz.free' 2
      have f3 := hz.free' 3
      have f4 := hz.free' 4
      have f5 := hz.free' 5
      have f6 := hz.free' 6
      have f7 := hz.free' 7
      have f8 := hz.free' 8
      have f9 := hz.free' 9
      have f10 := hz.free' 10
      have f11 := hz.free' 11
      have HTH : Hid (w3.there (w.heap.size + 1) 0 12) := hz.there
      have HBF : Hid (Bs (w3.setCells (w.heap.size + 1) 0 [.int .i64 Y.v, .int .i64 Y.k, .int .i64 Y.s, .int .i64 Y.p, .int .i64 Y.t, .int .i64 Y.a, .int .i64 Y.l, .int .i64 Y.c, .int .i64 Y.n, .int .i64 Y.i, .string (bstr q.nm), .slice ao q.l.length cap]) (.slice ao q.l.length cap) (q.l) ∧ Below w.heap.size w (w3.setCells (w.heap.size + 1) 0 [.int .i64 Y.v, .int .i64 Y.k, .int .i64 Y.s, .int .i64 Y.p, .int .i64 Y.t, .int .i64 Y.a, .int .i64 Y.l, .int .i64 Y.c, .int .i64 Y.n, .int .i64 Y.i, .string (bstr q.nm), .slice ao q.l.length cap])) := ⟨bs_offB (HB.out _ BW).1 _ _ _ HO1.out, below_cells (by omega) _ 0 _ BW⟩
      clear hz BW HB HO1
      go_wp2
      have HRG := World.rangeAt_setCells_same w3 (w.heap.size + 1) 0 [.int .i64 Y.v, .int .i64 Y.k, .int .i64 Y.s, .int .i64 Y.p, .int .i64 Y.t, .int .i64 Y.a, .int .i64 Y.l, .int .i64 Y.c, .int .i64 Y.n, .int .i64 Y.i, .string (bstr q.nm), .slice ao q.l.length cap] HTH.out
      refine bodyPost_ret (results_cell_two (p := 8) (s := 9) (s2 := 10) (ty := 24) rfl _ _ (w.heap.size + 1) [.int .i64 Y.v, .int .i64 Y.k, .int .i64 Y.s, .int .i64 Y.p, .int .i64 Y.t, .int .i64 Y.a, .int .i64 Y.l, .int .i64 Y.c, .int .i64 Y.n, .int .i64 Y.i, .string (bstr q.nm), .slice ao q.l.length cap] _ rfl HRG Tryd.underlying24 rfl HIR.out) rfl ?_
      exact ⟨ao, cap, rfl, HBF.out.1, fun _ _ h => h, HBF.out.2⟩
  · have HR : Hid (rrd b p t q = (0, rc, q)) := by
      show _ = _
      have hrn : rn b p = (0, 0, rc) := by rw [HRN.out, if_pos hc]
      rw [HE.out, hrn, if_neg hc]
    rw [HR.out]
    have d1 : ((rc : Int) != 0) = true := by rw [bne_iff_ne]; omega
    clear HR HE HRN HPU hc
    generalize q.x.ofV v = X at *
    unfold rv at *
    go_enter Tryd.func64, Tryd.ntmps64
    go_wp2_with fail
    refine (HRU.out _ (HX.out _ _).2.2).mono ?_
    rintro e w2 ⟨rfl, rfl⟩
    go_wp2
    go_returns
    exact ⟨ao, cap, rfl, (HB.out _ (by go_grown)).1, fun _ _ h => h, by go_grown⟩
theorem refread_any (v : Int) (q : Pts) (d bv : Value) (b : List Nat) (p : Int) (t : Nat) (w : World) (h : Bs w d q.l) (hb : Bs w bv b) (hlen : b.length ≤ 140737488355328) (h1 : 1 ≤ t) (h2 : t ≤ 11) :
    Calls Tryd.prog 64 #[rv (q.x.ofV v) (bstr q.nm) d, .int .i64 (t : Int), bv, .int .i64 p] w fun e w' => ∃ ao, ∃ cap : Nat, e = .returned (.tuple #[rv ((rrd b p t q).2.2.x.ofV v) (bstr (rrd b p t q).2.2.nm) (.slice ao (rrd b p t q).2.2.l.length cap), .int .i64 (rrd b p t q).1, .int .i64 ((rrd b p t q).2.1 : Int)]) ∧ Bs w' (.slice ao (rrd b p t q).2.2.l.length cap) (rrd b p t q).2.2.l ∧ (∀ g, g < w.heap.size → OffB g d q.l → OffB g (.slice ao (rrd b p t q).2.2.l.length cap) (rrd b p t q).2.2.l) ∧ Below w.heap.size w w' := by
  by_cases h7 : t = 7
  · subst h7
    exact refread_7 v q d bv b p w h hb hlen
  · by_cases h10 : t = 10
    · subst h10
      exact refread_10 v q d bv b p w h hb hlen
    · by_cases h11 : t = 11
      · subst h11
        exact refread_11 v q d bv b p w h hb hlen
      · exact refread_n v q d bv b p t w h hb hlen h1 (by omega) h7
end Go.Proofs.YtfkpdmmgjgchjaaDoor
