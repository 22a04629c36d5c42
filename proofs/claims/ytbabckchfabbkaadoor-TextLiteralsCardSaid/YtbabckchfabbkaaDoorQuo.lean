/-
  Package text: Quote.
-/
import Derived.Test.YtbabckchfabbkaaDoorWrt
import Derived.Test.YtbabckchfabbkaaDoorItr
import Derived.Lib.AppendStr
import Derived.OwnWalk
namespace Go.Proofs.YtbabckchfabbkaaDoor
open Go Go.RowKit Go.Lib
open Tx

namespace Tx
/-- how the piece at p stands in a literal -/
def pcW (s : ByteArray) (p : Nat) : ByteArray := if stray s p then hexB (at' s p) else wrt (Utf8.decode s p).1
/-- how all from p on stands in a literal -/
def qs (s : ByteArray) (p : Nat) : List UInt8 := if _h : p < s.size then (pcW s p).data.toList ++ qs s (p + (Utf8.decode s p).2) else []
termination_by s.size - p
decreasing_by
  have := decode_fits s p (by assumption)
  omega
theorem qs_in (s : ByteArray) (p : Nat) (h : p < s.size) : qs s p = (pcW s p).data.toList ++ qs s (p + (Utf8.decode s p).2) := by rw [qs, dif_pos h]
theorem qs_out (s : ByteArray) (p : Nat) (h : ¬ p < s.size) : qs s p = [] := by rw [qs, dif_neg h]
/-- the literal -/
def quo (s : ByteArray) : ByteArray := ⟨(34 :: (qs s 0 ++ [34])).toArray⟩
def bc (l : List UInt8) : List Value := l.map fun b => Value.int .u8 (b.toNat : Int)
theorem bc_len (l : List UInt8) : (bc l).length = l.length := by simp [bc]
theorem encode_le (r : Int) : (Utf8.encode r).size ≤ 4 := by
  have key : ∀ c : Nat, (if c < 0x80 then (⟨#[UInt8.ofNat c]⟩ : ByteArray) else if c < 0x800 then ⟨#[UInt8.ofNat (0xC0 + c / 64), UInt8.ofNat (0x80 + c % 64)]⟩ else if c < 0x10000 then ⟨#[UInt8.ofNat (0xE0 + c / 4096), UInt8.ofNat (0x80 + c / 64 % 64), UInt8.ofNat (0x80 + c % 64)]⟩ else ⟨#[UInt8.ofNat (0xF0 + c / 262144), UInt8.ofNat (0x80 + c / 4096 % 64), UInt8.ofNat (0x80 + c / 64 % 64), UInt8.ofNat (0x80 + c % 64)]⟩).size ≤ 4 := by
    intro c
    split
    · show (1 : Nat) ≤ 4; omega
    · split
      · show (2 : Nat) ≤ 4; omega
      · split
        · show (3 : Nat) ≤ 4; omega
        · show (4 : Nat) ≤ 4; omega
  exact key _
theorem wrt_le (r : Nat) (hr : r < 2147483648) : (wrt r).size ≤ 12 := by
  have he := encode_le (r : Int)
  have hx : (hexL r).length ≤ 8 := hexL_len 7 r (by omega)
  unfold wrt
  repeat' split
  · rw [ByteArray.size_append]
    have : (⟨#[92]⟩ : ByteArray).size = 1 := rfl
    omega
  · show (2 : Nat) ≤ 12; omega
  · show (2 : Nat) ≤ 12; omega
  · show (2 : Nat) ≤ 12; omega
  · show (4 : Nat) ≤ 12; omega
  · rw [ByteArray.size_append, ByteArray.size_append]
    have h1 : (⟨#[92, 117, 123]⟩ : ByteArray).size = 3 := rfl
    have h2 : (⟨#[125]⟩ : ByteArray).size = 1 := rfl
    have h3 : (⟨(hexL r).toArray⟩ : ByteArray).size = (hexL r).length := by
      show (hexL r).toArray.size = _
      simp
    omega
  · omega
theorem pcW_le (s : ByteArray) (p : Nat) : (pcW s p).size ≤ 12 := by
  unfold pcW
  split
  · show (4 : Nat) ≤ 12; omega
  · exact wrt_le _ (by have := decode_le s p; omega)
end Tx
theorem info5q : ∃ i, Tryd.prog.info? 5 = some i ∧ i.zero = some (.int .u8 0) ∧ i.size = 1 ∧ i.bytes = 1 := by
  have h : (Tryd.prog.info? 5).map (fun i => (i.zero, i.size, i.bytes)) = some (some (.int .u8 0), 1, 1) := by kernel_rfl
  exact info_parts3 h

/-- bytes in a row of the call's own -/
def Ro (B : Nat) (w : World) (v : Value) (l : List UInt8) : Prop := w.ownsRow B 5 1 v l.length (bc l)
theorem Ro.kept {B : Nat} {w w' : World} {v : Value} {l : List UInt8} (h : Ro B w v l) (hb : Below w.heap.size w w') : Ro B w' v l := by
  refine ⟨h.1, ?_⟩
  rcases h.2 with h1 | ⟨g, cap, cur, rfl, h1, hg, rest⟩
  · exact .inl h1
  · exact .inr ⟨g, cap, cur, rfl, h1, (hb.block g (Array.getElem?_eq_some_iff.1 hg).1).trans hg, rest⟩
theorem Ro.iter {B : Nat} {w : World} {v : Value} {l : List UInt8} {k : Nat} {s t : ByteArray} {p q : Nat} (h : Ro B w v l) (hk : w.heap[k]? = some (.stringIter t q)) : Ro B (setIter w k s p) v l := by
  refine ⟨h.1, ?_⟩
  rcases h.2 with h1 | ⟨g, cap, cur, rfl, h1, hg, rest⟩
  · exact .inl h1
  · refine .inr ⟨g, cap, cur, rfl, h1, ?_, rest⟩
    have hne : k ≠ g := by
      intro e
      rw [e, hg] at hk
      cases hk
    show (w.heap.setIfInBounds k _)[g]? = _
    rw [Array.getElem?_setIfInBounds_ne hne]
    exact hg
/-- the iterator stays while the row is written -/
theorem iter_grown {B : Nat} {w w' : World} {v : Value} {l : List UInt8} {k : Nat} {t : ByteArray} {q : Nat} (h : Ro B w v l) (hk : w.heap[k]? = some (.stringIter t q)) (hg : w.grownBy w' v.ownBlock) : w'.heap[k]? = some (.stringIter t q) := by
  rw [hg.block k (Array.getElem?_eq_some_iff.1 hk).1 ?_]
  · exact hk
  · intro e
    rcases h.2 with ⟨rfl, _⟩ | ⟨g, cap, cur, rfl, _, hgg, _⟩
    · simp [Value.ownBlock] at e
    · simp [Value.ownBlock] at e
      subst e
      rw [hgg] at hk
      cases hk
theorem Ro.below {w0 w w' : World} {v : Value} {l : List UInt8} (h : Ro w0.heap.size w v l) (hb : Below w0.heap.size w0 w) (hg : w.grownBy w' v.ownBlock) : Below w0.heap.size w0 w' :=
  hb.grown hg hb.size (fun k hk => (World.ownsRow.lt h k hk).1)
/-- append(v, str...) -/
theorem wpList_app_str {P : Program} (w : World) {ops : Array Oper} {rest : List Oper} {o : Oper} {a : Act} {Q : Exit → Act → World → Prop} (hgd : o.guard = none) (sl x : Operand) (t u : TypeId)
    (ho : o.op = .call { callee := .builtin .append, args := #[sl, x], argTypes := #[t, u] })
    (B : Nat) (hinfo : ∃ i, P.info? 5 = some i ∧ i.zero = some (.int .u8 0) ∧ i.size = 1 ∧ i.bytes = 1) (ht : P.underlying t = some (.slice 5)) (hu : P.underlying u = some .string)
    (v : Value) (l : List UInt8) (hv : a.eval sl = v) (h : Ro B w v l) (s : ByteArray) (hx : a.eval x = .string s) (hl : l.length ≤ 100000000) (hs : s.size ≤ 12) (hB : B ≤ w.heap.size)
    (hK : ∀ v' w', Ro B w' v' (l ++ s.data.toList) → w.grownBy w' v.ownBlock → wpList P ops Q rest (a.put o.dst v') w') : wpList P ops Q (o :: rest) a w := by
  obtain ⟨i, hi, hz, h1, h2⟩ := hinfo
  refine wpList_append_own_string w hgd sl x t u ho B 5 i ht hu hi hz h1 h2 v l.length (bc l) hv h s hx (by unfold maxLen; omega) (by omega) hB fun v' w' h3 h4 _ => hK v' w' ?_ h4
  show w'.ownsRow B 5 1 v' (l ++ s.data.toList).length (bc (l ++ s.data.toList))
  have e : (l ++ s.data.toList).length = l.length + s.size := by rw [List.length_append, Array.length_toList]; rfl
  rw [e]
  have e2 : bc (l ++ s.data.toList) = bc l ++ strCells s := by simp [bc, strCells]
  rw [e2]
  exact h3
/-- append(v, c) of one byte -/
theorem wpList_app_one {P : Program} (w : World) {ops : Array Oper} {rest : List Oper} {o : Oper} {a : Act} {Q : Exit → Act → World → Prop} (hgd : o.guard = none) (s x : Operand) (t : TypeId)
    (ho : o.op = .call { callee := .builtin .append, args := #[s, x], argTypes := #[t, t] })
    (B : Nat) (hinfo : ∃ i, P.info? 5 = some i ∧ i.zero = some (.int .u8 0) ∧ i.size = 1 ∧ i.bytes = 1) (ht : P.underlying t = some (.slice 5))
    (v : Value) (l : List UInt8) (hv : a.eval s = v) (h : Ro B w v l) (g : Nat) (c : UInt8) (hx : a.eval x = .slice (some ⟨g, 0, none⟩) 1 1) (hc : w.cell? ⟨g, 0, none⟩ = some (.int .u8 (c.toNat : Int))) (hl : l.length ≤ 100000000) (hB : B ≤ w.heap.size)
    (hK : ∀ v' w', Ro B w' v' (l ++ [c]) → w.grownBy w' v.ownBlock → wpList P ops Q rest (a.put o.dst v') w') : wpList P ops Q (o :: rest) a w := by
  obtain ⟨i, hi, hz, h1, h2⟩ := hinfo
  refine wpList_append_own w hgd s x t ho B 5 i (.int .u8 0) 1 1 ht hi hz h1 h2 rfl (by decide) v l.length (bc l) hv h ⟨g, 0, none⟩ 1 1 [.int .u8 (c.toNat : Int)] hx rfl ?_ (by intro u hu; simp at hu; subst hu; rfl) (by unfold maxLen; omega) (by omega) hB fun v' w' h3 h4 _ => hK v' w' ?_ h4
  · intro j u hj
    match j, hj with
    | 0, hj =>
      simp at hj
      subst hj
      rw [Addr.add_lit]
      exact hc
  · show w'.ownsRow B 5 1 v' (l ++ [c]).length (bc (l ++ [c]))
    have e2 : bc (l ++ [c]) = bc l ++ [.int .u8 (c.toNat : Int)] := by simp [bc]
    rw [List.length_append, e2]
    exact h3
/-- string(v) -/
theorem Ro.str {B : Nat} {w : World} {v : Value} {l : List UInt8} (h : Ro B w v l) (hl : 0 < l.length) : (convert 66 9 v).run Tryd.prog w = .ok (.string ⟨l.toArray⟩) w := by
  have h0 := h
  rcases h.2 with ⟨_, h1⟩ | ⟨g, cap, cur, rfl, hb, hg, h1, h2, h3, h4⟩
  · omega
  · refine run_convert_bytes_back w 66 9 5 ⟨g, 0, none⟩ cap l Tryd.underlying66 Tryd.underlying5 Tryd.underlying9 (fun j hj => ?_)
    rw [Addr.add_lit, Nat.zero_add, World.ownsRow.cellAt h0 j (by omega)]
    simp [bc, hj]
theorem Ro.shape {B : Nat} {w : World} {v : Value} {l : List UInt8} (h : Ro B w v l) : ∃ ao cap, v = .slice ao l.length cap := by
  rcases h.2 with ⟨rfl, h1⟩ | ⟨g, cap, cur, rfl, _⟩
  · exact ⟨none, 0, by rw [h1]⟩
  · exact ⟨_, cap, rfl⟩

set_option maxRecDepth 100000 in
set_option maxHeartbeats 2000000 in
theorem quote_any (s : ByteArray) (w : World) (hs : s.size ≤ 8000000) (hT : TabP 3 .i32 hids w) (hD : w.cell? ⟨9, 15, none⟩ = some (.int .u8 4)) :
    Calls Tryd.prog 11 #[.string s] w fun e w' => e = .returned (.string (quo s)) ∧ Below w.heap.size w w' := by
  have hin := info5q
  obtain ⟨i0, hi0, hz0, hz1, hz2⟩ := info5q
  have HT : Hid (∀ w', Below w.heap.size w w' → TabP 3 .i32 hids w') := fun w' hb => hT.kept hb
  have HD : Hid (∀ w', Below w.heap.size w w' → w'.cell? ⟨9, 15, none⟩ = some (.int .u8 4)) := fun w' hb => (hb.cell (p := ⟨9, 15, none⟩) (World.block_lt_of_cell? _ _ hD)).trans hD
  obtain ⟨T, hTT⟩ : ∃ T, 34 :: qs s 0 = T := ⟨_, rfl⟩
  have HQ : Hid (quo s = ⟨(T ++ [34]).toArray⟩) := by show _ = _; unfold quo; rw [← hTT]; rfl
  have HQ0 : Hid ([34] ++ qs s 0 = T) := by show _ = _; rw [← hTT]; rfl
  clear hT hD hTT
  generalize quo s = Z at *
  go_enter Tryd.func11, Tryd.ntmps11
  go_wp2_with (at_make; refine wpList_make_own _ rfl _ _ 66 rfl w.heap.size 5 i0 (.int .u8 0) 1 Tryd.underlying66 hi0 hz0 hz1 _ _ _ (s.size + 2) rfl rfl (by omega) (by rw [hz2]; omega) (by unfold maxLen; omega) (Nat.le_refl _) ?_)
  intro w1 hown hgr
  have B1 : Below w.heap.size w w1 := (Below.refl _ w).grown hgr (Nat.le_refl _) (fun k hk => by cases hk)
  have R1 : Hid (∀ o, Ro w.heap.size (w1.alloc o) (.slice (some ⟨w.heap.size, 0, none⟩) 0 (s.size + 2)) []) := fun o => (show Ro w.heap.size w1 (.slice (some ⟨w.heap.size, 0, none⟩) 0 (s.size + 2)) [] from hown).kept (up0 _ _)
  have hs1 := B1.size
  have HB1 : Hid (∀ o, Below w.heap.size w (w1.alloc o)) := fun o => up B1 o
  clear hown hgr B1
  go_wp2_with (at_builtin; refine wpList_app_one _ rfl (.tmp 10) (.tmp 11) 66 rfl w.heap.size hin Tryd.underlying66 _ [] rfl (R1.out _) _ 34 rfl (World.cell?_alloc_new w1 _ _ 0) (by simp) (by simp; omega) ?_)
  intro v2 w2 hr2 hg2
  have B2 : Below w.heap.size w w2 := (R1.out _).below (HB1.out _) hg2
  have HR2 : Hid (Ro w.heap.size w2 v2 [34]) := hr2
  have HB2 : Hid (Below w.heap.size w w2) := B2
  obtain ⟨ao2, cap2, e2⟩ := hr2.shape
  obtain rfl : v2 = .slice ao2 1 cap2 := e2
  have HI : Hid ((w2.iter s 0).heap[w2.heap.size]? = some (.stringIter s 0)) := World.iter_heap w2 s 0
  have HRI : Hid (Ro w.heap.size (w2.iter s 0) (.slice ao2 1 cap2) [34]) := HR2.out.kept (up_iter w2 s 0)
  have HBI : Hid (Below w.heap.size w (w2.iter s 0)) := andThen HB2.out (up_iter w2 s 0)
  have hsz2 : w.heap.size ≤ w2.heap.size := B2.size
  clear hr2 hg2 B2 R1 HB1
  go_wp2
  go_loopw [3] (fun o wr => ∃ (p : Nat) (L : List UInt8), Ro w.heap.size wr o L ∧ L ++ qs s p = T ∧ L.length ≤ 1 + 12 * p ∧ p ≤ s.size ∧ wr.heap[w2.heap.size]? = some (.stringIter s p) ∧ Below w.heap.size w wr) (fun _ wr => s.size - wr.iterPos w2.heap.size)
  case atStart => exact ⟨0, [34], HRI.out, HQ0.out, by simp, Nat.zero_le _, HI.out, HBI.out⟩
  case round =>
    obtain ⟨p, L, hro, hL, hlen, hp, hit, hbel⟩ := hrel
    have HL : Hid (L ++ qs s p = T) := hL
    have HPOS : Hid (wr.iterPos w2.heap.size = p) := iter_pos hit
    clear hL HI HRI HBI HQ0 HR2 HB2
    by_cases hlt : p < s.size
    · have hd := decode_fits s p hlt
      have hnx : ∀ ty, (Instr.next (.pointer (some ⟨w2.heap.size, 0, none⟩)) true ty).run Tryd.prog wr = _ := fun ty => run_next_at wr w2.heap.size s p ty hit hlt
      have hI2 : (setIter wr w2.heap.size s (p + (Utf8.decode s p).2)).heap[w2.heap.size]? = some (.stringIter s (p + (Utf8.decode s p).2)) := iter_at wr w2.heap.size s _ _ hit
      have hB2 : Below w.heap.size w (setIter wr w2.heap.size s (p + (Utf8.decode s p).2)) := below_iter hbel _ hsz2 s _
      have hR2 : Ro w.heap.size (setIter wr w2.heap.size s (p + (Utf8.decode s p).2)) u3 L := hro.iter hit
      obtain ⟨ao3, cap3, rfl⟩ := hro.shape
      clear hbel hit hro
      generalize setIter wr w2.heap.size s (p + (Utf8.decode s p).2) = w3 at *
      have HST : Hid (∀ w', Calls Tryd.prog 32 #[.string s, .int .i64 (p : Int), .int .i32 ((Utf8.decode s p).1 : Int)] w' fun e w'' => e = .returned (.bool (stray s p)) ∧ w'' = w') := fun w' => stray_any s p w' hlt
      have HP12 : Hid ((pcW s p).size ≤ 12) := pcW_le s p
      have HNX : Hid ((L ++ (pcW s p).data.toList) ++ qs s (p + (Utf8.decode s p).2) = T) := by show _ = _; rw [← HL.out, qs_in s p hlt, List.append_assoc]
      have hr31 := decode_le s p
      have g0 := at_get s p hlt
      have ha0 := at_lt s p
      cases hst : stray s p with
      | true =>
        have HE : Hid (pcW s p = hexB (at' s p)) := by show _ = _; unfold pcW; rw [if_pos hst]
        rw [hst] at HST
        generalize hx0 : s[p]'hlt = x0 at *
        rw [g0] at HE ha0
        clear g0 hst
        obtain ⟨r, hr⟩ : ∃ r : Nat, (Utf8.decode s p).1 = r := ⟨_, rfl⟩
        rw [hr] at hnx HST
        clear hr hr31
        go_wp2_with fail
        refine (HST.out _).mono ?_
        rintro e w4 ⟨rfl, rfl⟩
        go_wp2_with fail
        refine (hexb_any x0.toNat _ ha0).mono ?_
        rw [← HE.out]
        rintro e w5 ⟨rfl, b5⟩
        have B5 := andThen hB2 b5
        have HR5 : Hid (Ro w.heap.size w5 (.slice ao3 L.length cap3) L) := hR2.kept b5
        have hI5 := (b5.block w2.heap.size (Array.getElem?_eq_some_iff.1 hI2).1).trans hI2
        have hs5 := B5.size
        clear b5 hB2 hR2 hI2 HE
        generalize pcW s p = W at *
        go_wp2_with (at_builtin; refine wpList_app_str _ rfl (.tmp 23) (.tmp 27) 66 9 rfl w.heap.size hin Tryd.underlying66 Tryd.underlying9 _ L rfl HR5.out W rfl (by omega) HP12.out hs5 ?_)
        intro v6 w6 hr6 hg6
        have HRL : Hid (Ro w.heap.size w6 v6 (L ++ W.data.toList) ∧ w6.heap[w2.heap.size]? = some (.stringIter s (p + (Utf8.decode s p).2)) ∧ Below w.heap.size w w6) := ⟨hr6, iter_grown HR5.out hI5 hg6, HR5.out.below B5 hg6⟩
        have HPS : Hid (w6.iterPos w2.heap.size = p + (Utf8.decode s p).2) := iter_pos HRL.out.2.1
        have HWL : Hid ((L ++ W.data.toList).length ≤ 1 + 12 * (p + (Utf8.decode s p).2)) := by
          have h1 := HP12.out
          have h2 : W.data.toList.length = W.size := by rw [Array.length_toList]; rfl
          show (L ++ W.data.toList).length ≤ _
          rw [List.length_append, h2]
          omega
        clear hr6 hg6 HR5 hI5 B5
        go_wp2
        go_roundw
        case rel => exact ⟨p + (Utf8.decode s p).2, L ++ W.data.toList, HRL.out.1, HNX.out, HWL.out, hd.2.1, HRL.out.2.1, HRL.out.2.2⟩
        case measure => rw [HPS.out, HPOS.out]; omega
      | false =>
        have HE : Hid (pcW s p = wrt (Utf8.decode s p).1) := by show _ = _; unfold pcW; rw [if_neg (by simp [hst])]
        rw [hst] at HST
        clear g0 hst ha0
        obtain ⟨r, hr⟩ : ∃ r : Nat, (Utf8.decode s p).1 = r := ⟨_, rfl⟩
        rw [hr] at hnx HST HE hr31
        clear hr
        go_wp2_with fail
        refine (HST.out _).mono ?_
        rintro e w4 ⟨rfl, rfl⟩
        go_wp2_with fail
        refine (written_any r _ (by omega) (HT.out _ hB2) (HD.out _ hB2)).mono ?_
        rw [← HE.out]
        rintro e w5 ⟨rfl, b5⟩
        have B5 := andThen hB2 b5
        have HR5 : Hid (Ro w.heap.size w5 (.slice ao3 L.length cap3) L) := hR2.kept b5
        have hI5 := (b5.block w2.heap.size (Array.getElem?_eq_some_iff.1 hI2).1).trans hI2
        have hs5 := B5.size
        clear b5 hB2 hR2 hI2 HE
        generalize pcW s p = W at *
        go_wp2_with (at_builtin; refine wpList_app_str _ rfl (.tmp 29) (.tmp 31) 66 9 rfl w.heap.size hin Tryd.underlying66 Tryd.underlying9 _ L rfl HR5.out W rfl (by omega) HP12.out hs5 ?_)
        intro v6 w6 hr6 hg6
        have HRL : Hid (Ro w.heap.size w6 v6 (L ++ W.data.toList) ∧ w6.heap[w2.heap.size]? = some (.stringIter s (p + (Utf8.decode s p).2)) ∧ Below w.heap.size w w6) := ⟨hr6, iter_grown HR5.out hI5 hg6, HR5.out.below B5 hg6⟩
        have HPS : Hid (w6.iterPos w2.heap.size = p + (Utf8.decode s p).2) := iter_pos HRL.out.2.1
        have HWL : Hid ((L ++ W.data.toList).length ≤ 1 + 12 * (p + (Utf8.decode s p).2)) := by
          have h1 := HP12.out
          have h2 : W.data.toList.length = W.size := by rw [Array.length_toList]; rfl
          show (L ++ W.data.toList).length ≤ _
          rw [List.length_append, h2]
          omega
        clear hr6 hg6 HR5 hI5 B5
        go_wp2
        go_roundw
        case rel => exact ⟨p + (Utf8.decode s p).2, L ++ W.data.toList, HRL.out.1, HNX.out, HWL.out, hd.2.1, HRL.out.2.1, HRL.out.2.2⟩
        case measure => rw [HPS.out, HPOS.out]; omega
    · have hnx : ∀ ty, (Instr.next (.pointer (some ⟨w2.heap.size, 0, none⟩)) true ty).run Tryd.prog wr = _ := fun ty => run_next_over wr w2.heap.size s p ty hit hlt
      have HF : Hid (L = T) := by
        show _ = _
        have := HL.out
        rw [qs_out s p hlt, List.append_nil] at this
        exact this
      obtain ⟨ao3, cap3, rfl⟩ := hro.shape
      have HR5 : Hid (∀ o, Ro w.heap.size (wr.alloc o) (.slice ao3 L.length cap3) L) := fun o => hro.kept (up0 _ _)
      have HB5 : Hid (∀ o, Below w.heap.size w (wr.alloc o)) := fun o => up hbel o
      have hs5 := hbel.size
      clear hro hbel hit HL
      go_wp2_with (at_builtin; refine wpList_app_one _ rfl (.tmp 33) (.tmp 34) 66 rfl w.heap.size hin Tryd.underlying66 _ L rfl (HR5.out _) _ 34 rfl (World.cell?_alloc_new wr _ _ 0) (by omega) (by simp; omega) ?_)
      intro v6 w6 hr6 hg6
      have HB6 : Hid (Below w.heap.size w w6) := (HR5.out _).below (HB5.out _) hg6
      have hcv := hr6.str (by simp)
      obtain ⟨ao6, cap6, e6⟩ := hr6.shape
      rw [List.length_append] at e6
      obtain rfl : v6 = .slice ao6 (L.length + 1) cap6 := e6
      have HFF : Hid (Z = ⟨(L ++ [34]).toArray⟩) := by show _ = _; rw [HQ.out, HF.out]
      rw [← HFF.out] at hcv
      clear hr6 hg6 HR5 HB5
      go_wp2
      go_ret
      exact ⟨rfl, HB6.out⟩
end Go.Proofs.YtbabckchfabbkaaDoor
