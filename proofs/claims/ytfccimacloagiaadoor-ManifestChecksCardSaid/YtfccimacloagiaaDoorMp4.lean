/-
  Package manifest: put, Encode.
-/
import Derived.Test.YtfccimacloagiaaDoorMp3
import Derived.Maps.AppendAt
namespace Go.Proofs.YtfccimacloagiaaDoor
open Go Go.RowKit
open Wb

/-- append(v, x...) of bytes onto a row of the call's own, and where it lies -/
theorem wpList_append_at {P : Program} (w : World) {ops : Array Oper} {rest : List Oper} {o : Oper} {a : Act} {Q : Exit → Act → World → Prop} (hgd : o.guard = none) (s x : Operand) (t : TypeId)
    (ho : o.op = .call { callee := .builtin .append, args := #[s, x], argTypes := #[t, t] })
    (B : Nat) (hinfo : (P.info? 5).map (fun i => (i.zero, i.size, i.bytes)) = some (some (.int .u8 0), 1, 1)) (ht : P.underlying t = some (.slice 5))
    (v : Value) (l : List Nat) (hv : a.eval s = v) (h : Own B w v l) (xv : Value) (m : List Nat) (hx : a.eval x = xv) (hm : Bs w xv m)
    (hmax : l.length + m.length ≤ 140737488355328) (hB : B ≤ w.heap.size)
    (hK : ∀ v' w', Own B w' v' (l ++ m) → w.grownBy w' v.ownBlock → (v'.ownBlock = v.ownBlock ∨ v'.ownBlock = some w.heap.size) → wpList P ops Q rest (a.put o.dst v') w') : wpList P ops Q (o :: rest) a w := by
  obtain ⟨i0, hi, hz0, hz1, hz2⟩ := info_parts hinfo
  obtain ⟨ao, cap, rfl, hl, hmx, hn, hc⟩ := hm.shape
  cases ao with
  | none =>
    obtain rfl := hn rfl
    have h0 : m = [] := List.eq_nil_of_length_eq_zero (by omega)
    subst h0
    refine wpList_append_own_none hgd s x t ho B 5 i0 1 ht hi v l.length (bv l) hv h.row hx ?_
    exact hK v w (by simpa using h) (World.grownBy.refl _ _) (.inl rfl)
  | some ad =>
    refine wpList_append_own_at w hgd s x t ho B 5 i0 (.int .u8 0) 1 1 ht hi hz0 hz1 hz2 rfl (by decide) v l.length (bv l) hv h.row ad m.length cap (bv m) hx (by rw [bv_length, Nat.mul_one]) ?_ (bv_one m) (by unfold maxLen; omega) (by omega) hB ?_
    · intro j u hj
      have hjl : j < m.length := by have := (List.getElem?_eq_some_iff.1 hj).1; rwa [bv_length] at this
      obtain ⟨b, off, e, hcell⟩ := hc (List.ne_nil_of_length_pos (by omega))
      obtain rfl := Option.some.inj e
      rw [bv_get m j hjl] at hj
      rw [Addr.add_lit, hcell j hjl]
      exact hj
    · intro v' w' h1 h2 _ h4
      refine hK v' w' ⟨?_, ok_append h.good hm.good⟩ h2 h4
      rw [List.length_append, bv_append]
      exact h1
theorem own_slice {B : Nat} {w : World} {v : Value} {l : List Nat} (h : Own B w v l) : ∃ a, ∃ n c : Nat, v = .slice a n c := by
  obtain ⟨a, c, e, _⟩ := h.bs.shape
  exact ⟨a, _, c, e⟩
/-- numbers in a slice that was handed in -/
def IntsAt (w : World) (v : Value) (ns : List Int) : Prop := ∃ ao, ∃ cap : Nat, v = .slice ao ns.length cap ∧ ns.length ≤ cap ∧ cap ≤ maxLen ∧ ∀ (k : Nat) (n : Int), ns[k]? = some n → ∃ b off, ao = some ⟨b, off, none⟩ ∧ b < w.heap.size ∧ w.cell? ⟨b, off + k, none⟩ = some (.int .i64 n)
theorem putL_snoc (ns : List Int) (k : Nat) (n : Int) (h : ns[k]? = some n) : putL (ns.take (k + 1)) = putL (ns.take k) ++ Wn.uint n.toNat := by
  rw [List.take_add_one, h]
  simp [putL]
/-- blocks that another row's writing leaves alone -/
theorem grown_then {w w1 w2 : World} {row v : Value} (h : w.grownBy w1 row.ownBlock) (hv : v.ownBlock = row.ownBlock ∨ ∀ g, v.ownBlock = some g → w.heap.size ≤ g) (k : w1.grownBy w2 v.ownBlock) : w.grownBy w2 row.ownBlock :=
  ⟨k.os.trans h.os, k.tape.trans h.tape, k.output.trans h.output, Nat.le_trans h.size k.size, fun g hg hne => by
    rw [k.block g (Nat.lt_of_lt_of_le hg h.size) (fun e => ?_)]
    · exact h.block g hg hne
    · rcases hv with hv | hv
      · exact hne (e.trans hv)
      · have := hv g e.symm
        omega⟩
theorem grown_below2 {w w1 w2 : World} {row : Value} (h : w.grownBy w1 row.ownBlock) (k : Below w1.heap.size w1 w2) : w.grownBy w2 row.ownBlock :=
  ⟨k.os.trans h.os, k.tape.trans h.tape, k.output.trans h.output, Nat.le_trans h.size k.size, fun g hg hne => (k.block g (Nat.lt_of_lt_of_le hg h.size)).trans (h.block g hg hne)⟩
/-- where a row lies that began as row -/
def Hereby (w : World) (row v : Value) : Prop := v.ownBlock = row.ownBlock ∨ ∀ g, v.ownBlock = some g → w.heap.size ≤ g
set_option maxRecDepth 100000 in
set_option maxHeartbeats 4000000 in
theorem put_any (B : Nat) (bw : Value) (l : List Nat) (nv : Value) (ns : List Int) (w : World) (hO : Own B w bw l) (hB : B ≤ w.heap.size) (hN : IntsAt w nv ns) (hap : ∀ ao n cap b off, nv = .slice ao n cap → ao = some ⟨b, off, none⟩ → bw.ownBlock ≠ some b)
    (hpos : ∀ n ∈ ns, 0 ≤ n ∧ n ≤ 9223372036854775807) (hlen : l.length + 10 * ns.length ≤ 100000) :
    Calls Tryd.prog 28 #[bw, nv] w fun e w' => ∃ v', e = .returned v' ∧ Own B w' v' (l ++ putL ns) ∧ w.grownBy w' bw.ownBlock ∧ Hereby w bw v' := by
  have hin := info5
  obtain ⟨ao, cap, rfl, hc1, hc2, hcell⟩ := hN
  unfold maxLen at hc2
  have HCE : Hid (∀ (k : Nat) (n : Int), ns[k]? = some n → ∃ b off, ao = some ⟨b, off, none⟩ ∧ ∀ w', w.grownBy w' bw.ownBlock → w'.cell? ⟨b, off + k, none⟩ = some (.int .i64 n)) := fun k n hn => by
    obtain ⟨b, off, e, hb, hcl⟩ := hcell k n hn
    refine ⟨b, off, e, fun w' hg => ?_⟩
    have := hg.block b hb (fun e2 => hap _ _ _ b off rfl e e2.symm)
    rw [World.cell?_of_block (a := ⟨b, off + k, none⟩) this]
    exact hcl
  have HPO : Hid (∀ n ∈ ns, 0 ≤ n ∧ n ≤ 9223372036854775807) := hpos
  have HPL : Hid (∀ k, (putL (ns.take k)).length ≤ 10 * ns.length) := fun k => by
    have h1 := putL_len (ns.take k) (fun n hn => (hpos n (List.mem_of_mem_take hn)).2)
    have h2 : (ns.take k).length ≤ ns.length := List.length_take_le' k ns
    omega
  have HB : Hid (Own B w bw l ∧ B ≤ w.heap.size) := ⟨hO, hB⟩
  obtain ⟨ab, nb, cb, eb⟩ := own_slice hO
  subst eb
  clear hcell hap hpos hO hB
  go_enter Tryd.func28, Tryd.ntmps28
  go_wp2
  go_loopw [0, 9] (fun b i wr => ∃ (k : Nat), k ≤ ns.length ∧ i = .int .i64 (k : Int) ∧ Own B wr b (l ++ putL (ns.take k)) ∧ w.grownBy wr (Value.slice ab nb cb).ownBlock ∧ Hereby w (.slice ab nb cb) b) (fun _ i _ => ns.length - (intOf i).toNat)
  case atStart => exact ⟨0, Nat.zero_le _, rfl, by simpa [putL] using HB.out.1, World.grownBy.refl _ _, .inl rfl⟩
  case round =>
    obtain ⟨k, hk, rfl, ho, hg, hh⟩ := hrel
    by_cases hlt : k < ns.length
    · obtain ⟨n, hn⟩ : ∃ n, ns[k]? = some n := ⟨ns[k], List.getElem?_eq_getElem hlt⟩
      obtain ⟨hn0, hn1⟩ := HPO.out n (List.mem_of_getElem? hn)
      obtain ⟨u, rfl⟩ : ∃ u : Nat, n = (u : Int) := ⟨n.toNat, by omega⟩
      obtain ⟨b, off, rfl, hcl⟩ := HCE.out k _ hn
      have q0 := hcl wr hg
      have HM : Hid (putL (ns.take (k + 1)) = putL (ns.take k) ++ Wn.uint u) := by
        show _ = _
        rw [putL_snoc ns k _ hn]
        simp
      have HU : Hid (∀ w', Calls Tryd.prog 44 #[.int .u64 (u : Int)] w' fun e w'' => ∃ v', e = .returned v' ∧ Own w'.heap.size w'' v' (Wn.uint u) ∧ Below w'.heap.size w' w'') := fun w' => uint_any u w' (by omega)
      have hul := Wn.uint_len10 u (by omega)
      have hpl := HPL.out k
      have HX : Hid (Own B wr u0 (l ++ putL (ns.take k)) ∧ w.grownBy wr (Value.slice ab nb cb).ownBlock ∧ Hereby w (.slice ab nb cb) u0 ∧ B ≤ wr.heap.size) := ⟨ho, hg, hh, Nat.le_trans HB.out.2 hg.size⟩
      obtain ⟨a0, m0, c0, e0⟩ := own_slice ho
      subst e0
      clear hcl hn ho hg hh HPO HCE HPL HB
      generalize putL (ns.take k) = m at *
      generalize Wn.uint u = f at *
      go_wp2_with fail
      refine (HU.out _).mono ?_
      rintro e w4 ⟨v4, rfl, ho4, b4⟩
      obtain ⟨a4, n4, c4, e4⟩ := own_slice ho4
      subst e4
      have HO : Hid (Own B w4 (.slice a0 m0 c0) (l ++ m) ∧ Bs w4 (.slice a4 n4 c4) f ∧ B ≤ w4.heap.size ∧ wr.heap.size ≤ w4.heap.size) := ⟨HX.out.1.kept b4, ho4.bs, Nat.le_trans HX.out.2.2.2 b4.size, b4.size⟩
      have HG4 : Hid (w.grownBy w4 (Value.slice ab nb cb).ownBlock) := grown_below2 HX.out.2.1 b4
      have hml : (l ++ m).length + f.length ≤ 140737488355328 := by rw [List.length_append]; omega
      clear ho4 b4 q0 HU
      go_wp2_with (at_builtin; refine wpList_append_at _ rfl (.tmp 13) (.tmp 16) 25 rfl B hin Tryd.underlying25 _ (l ++ m) rfl HO.out.1 _ f rfl HO.out.2.1 hml HO.out.2.2.1 ?_)
      intro v5 w5 ho5 g5 hat5
      have R : Hid (Own B w5 v5 (l ++ putL (ns.take (k + 1))) ∧ w.grownBy w5 (Value.slice ab nb cb).ownBlock ∧ Hereby w (.slice ab nb cb) v5) := ⟨by rw [HM.out]; exact ho5, grown_then HG4.out HX.out.2.2.1 g5, by
        rcases hat5 with e | e
        · rcases HX.out.2.2.1 with h | h
          · exact .inl (e.trans h)
          · exact .inr fun g hg => h g (e ▸ hg)
        · refine .inr fun g hg => ?_
          rw [e] at hg
          have h1 := Option.some.inj hg
          have h2 := HG4.out.size
          omega⟩
      clear ho5 g5 hat5 HO HG4 HX
      go_wp2
      go_roundw
      case rel => exact ⟨k + 1, by omega, by go_num, R.out.1, R.out.2.1, R.out.2.2⟩
      case measure => simp [intOf]; omega
    · obtain rfl : k = ns.length := by omega
      rw [List.take_length] at ho
      clear HPO HCE HPL HB
      go_wp2
      go_ret
      exact ⟨_, rfl, ho, hg, hh⟩
end Go.Proofs.YtfccimacloagiaaDoor
