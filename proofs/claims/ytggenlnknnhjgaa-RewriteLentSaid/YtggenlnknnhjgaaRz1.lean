/-
  Package rewrite: a set of sagas in memory; ended.
-/
import Derived.Test.YtggenlnknnhjgaaCc
import Derived.Maps.OwnSet
namespace Go.Proofs.Ytggenlnknnhjgaa
open Go Go.RowKit Go.ChangeShapes
open Wb
namespace Rz
/-- has the saga ended? -/
def gone (rs : List Rec) (s : Int) : Bool := rs.any fun r => decide (r.x.s = s) && decide (r.x.k = 7)
def live (all rs : List Rec) : List Rec := rs.filter fun r => !gone all r.x.s
def dead (all rs : List Rec) : List Rec := rs.filter fun r => gone all r.x.s
theorem gone_snoc (rs : List Rec) (r : Rec) (s : Int) : gone (rs ++ [r]) s = (gone rs s || (decide (r.x.s = s) && decide (r.x.k = 7))) := by
  simp [gone, List.any_append]
end Rz
theorem lawI : Maps.Keyed Try.prog 3 := Maps.int_keyed Try.underlying3
theorem keyI {k : Int} (h : (Lit.int .i64 k).wf = true) : keyOf Try.prog 3 (.int .i64 k) = some (.int .i64 k) := Maps.keyOf_int_mk Try.underlying3 h
theorem zeroU (w : World) : (zeroValue 53).run Try.prog w = .ok (.agg #[]) w := by kernel_rfl
theorem wf_i64 {n : Int} (h1 : -9223372036854775808 ≤ n) (h2 : n ≤ 9223372036854775807) : (Lit.int .i64 n).wf = true := by
  have e1 : IntKind.i64.min = -9223372036854775808 := by decide
  have e2 : IntKind.i64.max = 9223372036854775807 := by decide
  simp [Lit.wf, e1, e2, h1, h2]
/-- a set of numbers -/
def MS (w : World) (b n : Nat) (S : Int → Bool) : Prop := ∃ D, w.ownsMap (H := Unit) Try.prog 3 unitElem b n D ∧ ∀ k, (Lit.int .i64 k).wf = true → Maps.has D (.int .i64 k) = S k
section
variable {w w' : World} {b n : Nat} {S : Int → Bool}
theorem MS.lt (h : MS w b n S) : b < w.heap.size := by
  obtain ⟨D, h1, -⟩ := h
  exact h1.lt
theorem MS.blk (h : MS w b n S) (hb : w'.heap[b]? = w.heap[b]?) : MS w' b n S := by
  obtain ⟨D, ⟨es, clock, h2, h3⟩, h4⟩ := h
  exact ⟨D, ⟨es, clock, hb.trans h2, h3⟩, h4⟩
theorem MS.kept (h : MS w b n S) (hb : Below w.heap.size w w') : MS w' b n S := h.blk (hb.block b h.lt)
theorem MS.new (w : World) : MS (w.alloc (.map #[] 0)) w.heap.size 0 (fun _ => false) := ⟨_, World.ownsMap_made w _ _ _, fun _k _ => rfl⟩
theorem MS.look (h : MS w b n S) {k : Int} (hk : (Lit.int .i64 k).wf = true) : (Instr.lookup 48 (.map (some b)) (.int .i64 k) true).run Try.prog w = .ok (.tuple #[.agg #[], .bool (S k)]) w := by
  obtain ⟨D, h1, h2⟩ := h
  obtain ⟨v, ps, hr, hv⟩ := h1.look_ok lawI Try.underlying48 (zeroU w) unitElem_mk (keyI hk)
  obtain ⟨rfl, -⟩ := unitElem_inv hv
  rw [hr, h2 k hk]
theorem MS.put (h : MS w b n S) {k : Int} (hk : (Lit.int .i64 k).wf = true) (hn : n < maxLen) : ∃ w', (Instr.mapUpdate 48 (.map (some b)) (.int .i64 k) (.agg #[])).run Try.prog w = .ok () w' ∧ MS w' b (n + 1) (fun j => S j || decide (k = j)) ∧ w.grownBy w' (some b) := by
  obtain ⟨D, h1, h2⟩ := h
  obtain ⟨w', hr, h3, h4⟩ := h1.store lawI Try.underlying48 hn (keyI hk) unitElem_mk
  refine ⟨w', hr, ⟨_, h3, fun j hj => ?_⟩, h4.grown⟩
  by_cases e : k = j
  · subst e
    rw [Maps.has_put_same h1.isMap (lawI.key (keyI hk))]
    simp
  · rw [Maps.has_put_other (fun e2 => e (by injection e2 with _ e3; exact e3.symm)), h2 j hj]
    simp [e]
end
set_option maxRecDepth 100000 in
set_option maxHeartbeats 4000000 in
theorem rwended_any (v : Value) (rs : List Rec) (w : World) (h : RecsAt w v rs) (hg : ∀ r ∈ rs, r.x.fit) (hfew : rs.length ≤ 5000000) :
    Calls Try.prog 14 #[v] w fun e w' => ∃ b n, e = .returned (.map (some b)) ∧ MS w' b n (Rz.gone rs) ∧ w.heap.size ≤ b ∧ Below w.heap.size w w' := by
  have HIR : Hid ((Try.prog.info? 25).map (·.size) = some 12) := infoRec
  have HGE : Hid (∀ r ∈ rs, r.x.fit) := hg
  have HRS : Hid (∀ w', Below w.heap.size w w' → RecsAt w' v rs) := fun w' hb => h.kept hb
  obtain ⟨ao, cap, rfl, hm, _⟩ := h
  unfold maxLen at hm
  have HMS : Hid (MS (w.alloc (.map #[] 0)) w.heap.size 0 (Rz.gone (rs.take 0)) ∧ Below w.heap.size w (w.alloc (.map #[] 0))) := ⟨MS.new w, up0 _ _⟩
  have hmm := @run_makeMap Try.prog
  clear hg
  go_enter Try.func14, Try.ntmps14
  go_wp2_with fail
  go_loopw [9] (fun i wr => ∃ (k n : Nat), k ≤ rs.length ∧ n ≤ k ∧ i = .int .i64 (k : Int) ∧ MS wr w.heap.size n (Rz.gone (rs.take k)) ∧ Below w.heap.size w wr) (fun i _ => rs.length - (intOf i).toNat)
  case atStart => exact ⟨0, 0, Nat.zero_le _, Nat.le_refl _, rfl, HMS.out⟩
  case round =>
    obtain ⟨k, n, hk, hn, rfl, hms, hbel⟩ := hrel
    by_cases hlt : k < rs.length
    · obtain ⟨r, hr⟩ : ∃ r, rs[k]? = some r := ⟨rs[k], List.getElem?_eq_getElem hlt⟩
      obtain ⟨ao', cap', e', _, hcr⟩ := HRS.out _ hbel
      simp only [Value.slice.injEq] at e'
      obtain ⟨rfl, _, rfl⟩ := e'
      obtain ⟨b, off, d, rfl, hrg, hbs⟩ := hcr k r hr
      have hnf := HGE.out r (List.mem_of_getElem? hr)
      have hwf : (Lit.int .i64 r.x.s).wf = true := wf_i64 (hnf 2 (by decide) (by decide)).1 (hnf 2 (by decide) (by decide)).2
      have HTK : Hid (rs.take (k + 1) = rs.take k ++ [r]) := by show _ = _; rw [List.take_add_one, hr]; rfl
      obtain ⟨ar, cr, rfl, _⟩ := hbs.shape
      have HR0 : Hid (wr.rangeAt b (off + k * 12) [.int .i64 r.x.v, .int .i64 r.x.k, .int .i64 r.x.s, .int .i64 r.x.p, .int .i64 r.x.t, .int .i64 r.x.a, .int .i64 r.x.l, .int .i64 r.x.c, .int .i64 r.x.n, .int .i64 r.x.i, .string r.nm, .slice ar r.l.length cr]) := hrg
      have HMW : Hid (MS wr w.heap.size n (Rz.gone (rs.take k)) ∧ Below w.heap.size w wr) := ⟨hms, hbel⟩
      have HBX : Hid (∀ o, MS (wr.alloc o) w.heap.size n (Rz.gone (rs.take k)) ∧ Below w.heap.size w (wr.alloc o)) := fun o => ⟨hms.kept (up0 _ _), up hbel _⟩
      clear hcr hrg hbs hms hbel hnf HGE HRS hr
      by_cases h7 : r.x.k = 7
      · obtain ⟨W2, hrun, hms2, hgr⟩ := (HBX.out (.cells #[.int .i64 r.x.v, .int .i64 r.x.k, .int .i64 r.x.s, .int .i64 r.x.p, .int .i64 r.x.t, .int .i64 r.x.a, .int .i64 r.x.l, .int .i64 r.x.c, .int .i64 r.x.n, .int .i64 r.x.i, .string r.nm, .slice ar r.l.length cr] 25)).1.put hwf (by unfold maxLen; omega)
        have HN : Hid (MS W2 w.heap.size (n + 1) (Rz.gone (rs.take (k + 1))) ∧ Below w.heap.size w W2) := by
          refine ⟨?_, (HBX.out _).2.grown hgr (HBX.out _).2.size fun q e => Nat.le_of_eq (Option.some.inj e)⟩
          obtain ⟨D, q1, q2⟩ := hms2
          refine ⟨D, q1, fun j hj => ?_⟩
          rw [q2 j hj, HTK.out, Rz.gone_snoc, decide_eq_true h7, Bool.and_true]
        have t7 : (r.x.k == 7) = true := by rw [h7]; rfl
        clear hms2 hgr HBX HMW h7
        go_wp2_with (refine wpList_load_mid rfl 25 _ rfl b (off + k * 12) rfl [.int .i64 r.x.v, .int .i64 r.x.k, .int .i64 r.x.s, .int .i64 r.x.p, .int .i64 r.x.t, .int .i64 r.x.a, .int .i64 r.x.l, .int .i64 r.x.c, .int .i64 r.x.n, .int .i64 r.x.i, .string r.nm, .slice ar r.l.length cr] _ HR0.out Try.underlying25 rfl HIR.out ?_)
        go_roundw
        case rel => exact ⟨k + 1, n + 1, by omega, by omega, by go_num, HN.out⟩
        case measure => simp [intOf]; omega
      · have t7 : (r.x.k == 7) = false := by simpa using h7
        have HN : Hid (∀ o, MS (wr.alloc o) w.heap.size n (Rz.gone (rs.take (k + 1))) ∧ Below w.heap.size w (wr.alloc o)) := fun o => by
          refine ⟨?_, (HBX.out o).2⟩
          obtain ⟨D, q1, q2⟩ := (HBX.out o).1
          refine ⟨D, q1, fun j hj => ?_⟩
          rw [q2 j hj, HTK.out, Rz.gone_snoc, decide_eq_false h7, Bool.and_false, Bool.or_false]
        clear HBX HMW h7
        go_wp2_with (refine wpList_load_mid rfl 25 _ rfl b (off + k * 12) rfl [.int .i64 r.x.v, .int .i64 r.x.k, .int .i64 r.x.s, .int .i64 r.x.p, .int .i64 r.x.t, .int .i64 r.x.a, .int .i64 r.x.l, .int .i64 r.x.c, .int .i64 r.x.n, .int .i64 r.x.i, .string r.nm, .slice ar r.l.length cr] _ HR0.out Try.underlying25 rfl HIR.out ?_)
        go_roundw
        case rel => exact ⟨k + 1, n, by omega, by omega, by go_num, HN.out _⟩
        case measure => simp [intOf]; omega
    · obtain rfl : k = rs.length := by omega
      rw [List.take_length] at hms
      clear HRS HGE
      go_wp2_with fail
      go_ret
      exact ⟨_, n, rfl, hms, Nat.le_refl _, hbel⟩
end Go.Proofs.Ytggenlnknnhjgaa
