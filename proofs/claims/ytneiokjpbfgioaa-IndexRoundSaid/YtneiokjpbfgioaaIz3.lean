/-
  IndexRound: the walk.
-/
import Derived.Test.YtneiokjpbfgioaaIz2
namespace Go.Proofs.Ytneiokjpbfgioaa
open Go Go.RowKit Go.ChangeShapes
open Wb

/-- between two keys, as the loop's slots say -/
def OuR (w : World) (g b base N : Nat) (kv av keyv iv : Value) (wr : World) : Prop :=
  ∃ (i key n : Nat) (es : List (Nat × List Nat)) (ss : List Value) (rs : List (Value × List Int)), iv = .int .i64 (i : Int) ∧ keyv = .int .i64 (key : Int) ∧ i ≤ N ∧ es.length = i ∧ RoS w g b base n es kv av ss rs wr ∧ (∀ p ∈ es, p.1 ≤ key) ∧ key ≤ i * 1125899906842624 ∧ ∀ q, Mrow wr b q → w.heap.size ≤ q
/-- while one key's numbers are added, as the loop's slots say -/
def InR (w : World) (g b base n : Nat) (es : List (Nat × List Nat)) (kv av : Value) (ss : List Value) (rs : List (Value × List Int)) (key nn : Nat) (ov lv jv : Value) (wr : World) : Prop :=
  ∃ (k off : Nat) (acc : List Nat), jv = .int .i64 (k : Int) ∧ ov = .int .i64 (off : Int) ∧ k ≤ nn ∧ acc.length = k ∧ RiS w g b base n es kv av ss rs key acc lv wr ∧ Ix.okO true 0 acc ∧ (∀ y ∈ acc, y < off) ∧ off ≤ 1099511627775 + k * 1048577 ∧ ∀ q, Mrow wr b q → w.heap.size ≤ q
set_option maxRecDepth 100000 in
set_option maxHeartbeats 8000000 in
theorem indexRound_walk (gv mv : Value) (ps : List (Int × Int)) (ms : List Int) (w : World) (h : Pr w gv ps) (hm : Ri w mv ms) :
    Calls Try.prog 4 #[gv, mv] w fun e w' => e = .returned (.bool true) ∧ Below w.heap.size w w' := by
  obtain ⟨ga, gc, rfl, hg1, hg2, hgc⟩ := h
  unfold maxLen at hg2
  obtain ⟨ma, mc, rfl, hm2, hmc⟩ := hm
  unfold maxLen at hm2
  have HGC : Hid (∀ j (hj : j < ps.length), ∃ b off, ga = some ⟨b, off, none⟩ ∧ ∀ W, Below w.heap.size w W → W.cell? ⟨b, off + j * 2, none⟩ = some (.int .i64 ps[j].1) ∧ W.cell? ⟨b, off + j * 2 + 1, none⟩ = some (.int .i64 ps[j].2)) := fun j hj => by
    obtain ⟨b, off, rfl, hx⟩ := hgc (List.ne_nil_of_length_pos (by omega))
    have hx := hx j hj
    exact ⟨b, off, rfl, fun W hW => ⟨(hW.cell (p := ⟨b, off + j * 2, none⟩) (World.block_lt_of_cell? _ _ hx.1)).trans hx.1, (hW.cell (p := ⟨b, off + j * 2 + 1, none⟩) (World.block_lt_of_cell? _ _ hx.2)).trans hx.2⟩⟩
  have HMC : Hid (∀ j (hj : j < ms.length), ∃ b off, ma = some ⟨b, off, none⟩ ∧ ∀ W, Below w.heap.size w W → W.cell? ⟨b, off + j, none⟩ = some (.int .i64 ms[j])) := fun j hj => by
    obtain ⟨b, off, rfl, hx⟩ := hmc (List.ne_nil_of_length_pos (by omega))
    have hx := hx j hj
    exact ⟨b, off, rfl, fun W hW => (hW.cell (p := ⟨b, off + j, none⟩) (World.block_lt_of_cell? _ _ hx)).trans hx⟩
  have HNW : Hid (Calls Try.prog 14 #[] w fun e w' => e = .returned (.pointer (some ⟨w.heap.size + 1, 0, none⟩)) ∧ MI w' (w.heap.size + 1) w.heap.size (w.heap.size + 2) 0 [] ∧ Below w.heap.size w w' ∧ ∀ q, ¬ Mrow w' w.heap.size q) := ixnew_any w
  obtain ⟨N, hN⟩ : ∃ N, N = min ps.length 300 := ⟨_, rfl⟩
  clear hgc hmc
  go_enter Try.func4, Try.ntmps4
  go_wp2_with fail
  refine HNW.out.mono ?_
  rintro e W1 ⟨rfl, m1, b1, r1⟩
  obtain ⟨g, b, base, hgg, hbb, hbs⟩ : ∃ g b base, g = w.heap.size + 1 ∧ b = w.heap.size ∧ base = w.heap.size + 2 := ⟨_, _, _, rfl, rfl, rfl⟩
  have HO0 : Hid (OuR w g b base N (.slice none 0 0) (.slice none 0 0) (.int .i64 0) (.int .i64 0) W1) := ⟨0, 0, 0, [], [], [], rfl, rfl, Nat.zero_le _, rfl, ⟨by rw [hgg, hbb, hbs]; exact m1, ⟨fun p hp => by rw [List.mem_singleton.1 hp]; exact World.ownsRow_nil _ _ _ _, fun p hp q e => (by rw [List.mem_singleton.1 hp] at e; cases e), List.pairwise_singleton _ _⟩, World.ownsRow_nil _ _ _ _, rfl, fun j p e => (by simp at e), b1, ⟨Nat.zero_le _, trivial, fun p hp => (by cases hp)⟩⟩, fun p hp => (by cases hp), by omega, fun q hq => absurd hq (by rw [hbb]; exact r1 q)⟩
  have HBW : Hid (w.heap.size ≤ b) := by show _ ≤ _; omega
  rw [← hgg]
  clear m1 b1 r1 HNW hgg hbb hbs
  go_wp2_with fail
  go_loopw [6, 7, 8, 9] (fun kv av keyv iv wr => OuR w g b base N kv av keyv iv wr) (fun _ _ _ iv _ => N - (intOf iv).toNat)
  case atStart => exact HO0.out
  case round =>
    clear HO0
    obtain ⟨i, key, n, es, ss, rs, rfl, rfl, hiN, hei, hro, hkl, hkb, hmr⟩ := hrel
    by_cases hlt : i < N
    · have hip : i < ps.length := by omega
      have hi3 : i < 300 := by omega
      have hi300 : ((i : Int) < 300) = True := by simp; omega
      obtain ⟨gb, go, rfl, hgcell⟩ := HGC.out i hip
      obtain ⟨cx, cy⟩ := hgcell wr hro.bel
      have HRO : Hid (RoS w g b base n es u6 u7 ss rs wr ∧ (∀ p ∈ es, p.1 ≤ key) ∧ key ≤ i * 1125899906842624 ∧ ∀ q, Mrow wr b q → w.heap.size ≤ q) := ⟨hro, hkl, hkb, hmr⟩
      have HGI : Hid (∀ W, Below w.heap.size w W → W.cell? ⟨gb, go + i * 2 + 1, none⟩ = some (.int .i64 ps[i].2)) := fun W hW => (hgcell W hW).2
      generalize ps[i].1 = x at *
      generalize ps[i].2 = y at *
      obtain ⟨z, hz, hzl⟩ := and_nat x 1125899906842623 1125899906842623 (by decide) (by decide)
      obtain ⟨o0, ho0, ho0l⟩ := and_nat y 1099511627775 1099511627775 (by decide) (by decide)
      obtain ⟨z1, hz1, hz1l⟩ : ∃ z1 : Nat, IntKind.i64.wrap (1 + (z : Int)) = (z1 : Int) ∧ 1 ≤ z1 ∧ z1 ≤ 1125899906842624 := ⟨1 + z, by rw [IntWalk.i64_in _ (by omega)]; omega, by omega, by omega⟩
      obtain ⟨key2, hk2, hk2l⟩ : ∃ key2 : Nat, IntKind.i64.wrap ((key : Int) + (z1 : Int)) = (key2 : Int) ∧ key < key2 ∧ key2 ≤ (i + 1) * 1125899906842624 := ⟨key + z1, by rw [IntWalk.i64_in _ (by omega)]; omega, by omega, by omega⟩
      have HKY : Hid (key < key2 ∧ key2 ≤ (i + 1) * 1125899906842624 ∧ o0 ≤ 1099511627775) := ⟨hk2l.1, hk2l.2, ho0l⟩
      clear hro hkl hkb hmr hgcell hzl hz1l hk2l ho0l
      by_cases hmi : i < ms.length
      · obtain ⟨mb, mo, rfl, hmcell⟩ := HMC.out i hmi
        have cm := hmcell wr HRO.out.1.bel
        generalize ms[i] = mm at *
        obtain ⟨z3, hz3, hz3l⟩ := and_nat mm 15 15 (by decide) (by decide)
        obtain ⟨nn, hnn, hnnl⟩ : ∃ nn : Nat, IntKind.i64.wrap (1 + (z3 : Int)) = (nn : Int) ∧ 1 ≤ nn ∧ nn ≤ 16 := ⟨1 + z3, by rw [IntWalk.i64_in _ (by omega)]; omega, by omega, by omega⟩
        clear hmcell hz3l
        go_wp2_with fail
        go_loopw [10, 12, 13] (fun ov lv jv w5 => InR w g b base n es u6 u7 ss rs key2 nn ov lv jv w5) (fun _ _ jv _ => nn - (intOf jv).toNat)
        case atStart => exact ⟨0, o0, [], rfl, rfl, Nat.zero_le _, rfl, HRO.out.1.enter key2, trivial, fun y hy => (by cases hy), by have := HKY.out.2.2; omega, HRO.out.2.2.2⟩
        case round =>
          obtain ⟨k, off, acc, rfl, rfl, hkn, hak, hri, hok, hlo, hob, hmr⟩ := hrel
          by_cases hlt5 : k < nn
          · have HGK : Hid (∀ p ∈ Ix.gm es, p.1 < (key2 : Int)) := fun p hp => by
              obtain ⟨q, hq, rfl⟩ := List.mem_map.1 hp
              have h8 := HRO.out.2.1 q hq
              have h9 := HKY.out.1
              show (q.1 : Int) < _
              omega
            have HAD : Hid (Calls Try.prog 15 #[.pointer (some ⟨g, 0, none⟩), .int .i64 (key2 : Int), .int .i64 (off : Int)] wr fun e w' => e = .returned (.tuple #[]) ∧ MI w' g b base (n + acc.length + 1) (Ix.add (Ix.withK (Ix.gm es) key2 acc) (key2 : Int) (off : Int)) ∧ IFr wr w' (fun q => q = b ∨ Mrow wr b q) ∧ ∀ q, Mrow w' b q → Mrow wr b q ∨ wr.heap.size ≤ q) := ixadd_any g b base (n + acc.length) _ _ _ wr hri.mi (WalkArith.wf_i64 (by have := HKY.out.2.1; omega)) (WalkArith.wf_i64 (by omega)) (by have := HRO.out.1.fit.1; omega)
            have HRI : Hid (RiS w g b base n es u6 u7 ss rs key2 acc u12 wr ∧ Ix.okO true 0 acc ∧ (∀ y ∈ acc, y < off) ∧ off ≤ 1099511627775 + k * 1048577 ∧ (∀ q, Mrow wr b q → w.heap.size ≤ q) ∧ acc.length = k) := ⟨hri, hok, hlo, hob, hmr, hak⟩
            clear hri hok hlo hob hmr
            go_wp2_with fail
            refine HAD.out.mono ?_
            rintro e W5 ⟨rfl, m5, f5, q5⟩
            have H5 : Hid (MI W5 g b base (n + (acc ++ [off]).length) (Ix.withK (Ix.gm es) key2 (acc ++ [off])) ∧ IR w b W5 ((u12, Ix.nums acc) :: (u6, kint es) :: rs) ∧ W5.ownsRow w.heap.size 35 1 u7 ss.length ss ∧ Below w.heap.size w W5 ∧ ∀ q, Mrow W5 b q → w.heap.size ≤ q) := HRI.out.1.add off HGK.out HBW.out HRI.out.2.2.2.2.1 m5 f5 q5
            have HQ9 : Hid ((W5.alloc (.cells #[.int .i64 (off : Int)] 3)).ownsRow w.heap.size 3 1 u12 (Ix.nums acc).length (ivs (Ix.nums acc)) ∧ (W5.alloc (.cells #[.int .i64 (off : Int)] 3)).cell? ⟨W5.heap.size, 0, none⟩ = some (.int .i64 (off : Int)) ∧ w.heap.size ≤ (W5.alloc (.cells #[.int .i64 (off : Int)] 3)).heap.size) := ⟨(H5.out.2.1.own _ List.mem_cons_self).alloc _, (lb_new W5 [.int .i64 (off : Int)] 3).cell 0 _ rfl, by have := H5.out.2.2.2.1.size; rw [heap_one]; omega⟩
            have HLN : Hid ((Ix.nums acc).length ≤ 100000000) := by
              have := HRI.out.2.2.2.2.2
              show _ ≤ _
              unfold Ix.nums
              rw [List.length_map]
              omega
            clear m5 f5 q5 HAD
            go_wp2_with (at_builtin; refine wpList_appIA _ rfl (.tmp 66) (.tmp 68) rfl w.heap.size u12 (Ix.nums acc) rfl HQ9.out.1 W5.heap.size 1 (off : Int) rfl HQ9.out.2.1 HLN.out HQ9.out.2.2 ?_)
            intro ad6 m6 c6 W6 hr6 hg6 hat6
            have H6 := RiS.app H5.out.1 H5.out.2.1 H5.out.2.2.1 H5.out.2.2.2.1 (off : Int) (W5.alloc (.cells #[.int .i64 (off : Int)] 3)) W6 (up0 _ _) (by simpa [ivs] using hr6) hg6 (by rw [heap_one]; exact hat6)
            have cy6 := HGI.out W6 H6.2.2.2.1
            have H7 : Hid (RiS w g b base n es u6 u7 ss rs key2 (acc ++ [off]) (.slice ad6 m6 c6) W6 ∧ ∀ q, Mrow W6 b q → w.heap.size ≤ q) := ⟨⟨H6.1, by have := H6.2.1; unfold Ix.nums at this ⊢; rw [List.map_append]; exact this, H6.2.2.1, H6.2.2.2.1⟩, fun q hq => H5.out.2.2.2.2 q (H6.2.2.2.2 q hq)⟩
            clear hr6 hg6 hat6 H6 HQ9 H5
            obtain ⟨sh, hsh, hshl⟩ := and_nat (y / 1099511627776) 65535 65535 (by decide) (by decide)
            obtain ⟨p1, hp1, hp1l⟩ : ∃ p1 : Nat, IntKind.i64.wrap ((sh : Int) * (k : Int)) = (p1 : Int) ∧ p1 ≤ 65535 * 16 := by
              have h9 : sh * k ≤ 65535 * 16 := Nat.mul_le_mul hshl (by omega)
              exact ⟨sh * k, by rw [← Int.natCast_mul, IntWalk.i64_in _ (by omega)], h9⟩
            obtain ⟨p2, hp2, hp2l⟩ : ∃ p2 : Nat, IntKind.i64.wrap (1 + (p1 : Int)) = (p2 : Int) ∧ 1 ≤ p2 ∧ p2 ≤ 1048577 := ⟨1 + p1, by rw [IntWalk.i64_in _ (by omega)]; omega, by omega, by omega⟩
            obtain ⟨off2, hof2, hof2l⟩ : ∃ off2 : Nat, IntKind.i64.wrap ((off : Int) + (p2 : Int)) = (off2 : Int) ∧ off < off2 ∧ off2 ≤ off + 1048577 := ⟨off + p2, by have := HRI.out.2.2.2.1; rw [IntWalk.i64_in _ (by omega)]; omega, by omega, by omega⟩
            have HNX : Hid (Ix.okO true 0 (acc ++ [off]) ∧ (∀ y ∈ acc ++ [off], y < off2) ∧ off2 ≤ 1099511627775 + (k + 1) * 1048577 ∧ (acc ++ [off]).length = k + 1) := ⟨Ix.okO_snoc acc true 0 off HRI.out.2.1 (Nat.zero_le _) (fun e => by cases e) HRI.out.2.2.1 (by have := HRI.out.2.2.2.1; omega), fun y hy => by
              rcases List.mem_append.1 hy with hy | hy
              · have := HRI.out.2.2.1 y hy
                omega
              · rw [List.mem_singleton.1 hy]
                exact hof2l.1, by have := HRI.out.2.2.2.1; omega, by rw [List.length_append, List.length_singleton, HRI.out.2.2.2.2.2]⟩
            clear hshl hp1l hp2l hof2l
            go_wp2_with fail
            go_roundw
            case rel => exact ⟨k + 1, off2, acc ++ [off], by go_num, rfl, by omega, HNX.out.2.2.2, H7.out.1, HNX.out.1, HNX.out.2.1, HNX.out.2.2.1, H7.out.2⟩
            case measure => simp [intOf] <;> omega
          · obtain rfl : k = nn := by omega
            obtain ⟨al, ml, cl, rfl⟩ : ∃ al ml cl, u12 = .slice al ml cl := by
              rcases (hri.ir.own _ List.mem_cons_self).2 with ⟨e9, -⟩ | ⟨g9, c9, cur9, e9, -⟩ <;> exact ⟨_, _, _, e9⟩
            have HRI : Hid (RiS w g b base n es u6 u7 ss rs key2 acc (.slice al ml cl) wr ∧ Ix.okO true 0 acc ∧ acc.length = k ∧ ∀ q, Mrow wr b q → w.heap.size ≤ q) := ⟨hri, hok, hak, hmr⟩
            have HQ8 : Hid ((wr.alloc (.cells #[.int .i64 (key2 : Int)] 3)).ownsRow w.heap.size 3 1 u6 (kint es).length (ivs (kint es)) ∧ (wr.alloc (.cells #[.int .i64 (key2 : Int)] 3)).cell? ⟨wr.heap.size, 0, none⟩ = some (.int .i64 (key2 : Int)) ∧ w.heap.size ≤ (wr.alloc (.cells #[.int .i64 (key2 : Int)] 3)).heap.size) := ⟨(hri.ir.own _ (List.mem_cons_of_mem _ List.mem_cons_self)).alloc _, (lb_new wr [.int .i64 (key2 : Int)] 3).cell 0 _ rfl, by have := hri.bel.size; rw [heap_one]; omega⟩
            have HLK : Hid ((kint es).length ≤ 100000000) := by
              show _ ≤ _
              unfold kint
              rw [List.length_map]
              omega
            have HLS : Hid (ss.length ≤ 100000000) := by have := HRO.out.1.ssl; show _ ≤ _; omega
            clear hri hok hlo hob hmr hak
            go_wp2_with (at_builtin; refine wpList_appIA _ rfl (.tmp 82) (.tmp 84) rfl w.heap.size u6 (kint es) rfl HQ8.out.1 wr.heap.size 1 (key2 : Int) rfl HQ8.out.2.1 HLK.out HQ8.out.2.2 ?_)
            intro ad7 m7 c7 W7 hr7 hg7 hat7
            have H7 := RiS.appK HRI.out.1 (key2 : Int) (wr.alloc (.cells #[.int .i64 (key2 : Int)] 3)) W7 (up0 _ _) (by simpa [ivs] using hr7) hg7 (by rw [heap_one]; exact hat7)
            have HK7 : Hid (MI W7 g b base (n + acc.length) (Ix.withK (Ix.gm es) key2 acc) ∧ IR w b W7 ((.slice ad7 m7 c7, kint es ++ [(key2 : Int)]) :: (.slice al ml cl, Ix.nums acc) :: rs) ∧ W7.ownsRow w.heap.size 35 1 u7 ss.length ss ∧ Below w.heap.size w W7 ∧ ∀ q, Mrow W7 b q → w.heap.size ≤ q) := ⟨H7.1, H7.2.1, H7.2.2.1, H7.2.2.2.1, fun q hq => HRI.out.2.2.2 q (H7.2.2.2.2 q hq)⟩
            have HQ9 : Hid ((W7.alloc (.cells #[.slice al ml cl] 35)).ownsRow w.heap.size 35 1 u7 ss.length ss ∧ (W7.alloc (.cells #[.slice al ml cl] 35)).cell? ⟨W7.heap.size, 0, none⟩ = some (.slice al ml cl) ∧ w.heap.size ≤ (W7.alloc (.cells #[.slice al ml cl] 35)).heap.size) := ⟨H7.2.2.1.alloc _, (lb_new W7 [.slice al ml cl] 35).cell 0 _ rfl, by have := H7.2.2.2.1.size; rw [heap_one]; omega⟩
            clear hr7 hg7 hat7 H7 HQ8
            go_wp2_with (at_builtin; refine wpList_appS _ rfl (.tmp 86) (.tmp 88) rfl w.heap.size u7 ss rfl HQ9.out.1 W7.heap.size 1 al ml cl rfl HQ9.out.2.1 HLS.out HQ9.out.2.2 ?_)
            intro ad8 m8 c8 W8 hr8 hg8
            have H8 := RiS.app2 (s := .slice al ml cl) HK7.out.1 HK7.out.2.1 HK7.out.2.2.1 HK7.out.2.2.2.1 (W7.alloc (.cells #[.slice al ml cl] 35)) W8 (up0 _ _) (by simpa using hr8) hg8
            have HF8 : Hid (OuR w g b base N (.slice ad7 m7 c7) (.slice ad8 m8 c8) (.int .i64 (key2 : Int)) (.int .i64 ((i + 1 : Nat) : Int)) W8) := by
              have hne : acc ≠ [] := fun e => by
                have h9 := HRI.out.2.2.1
                rw [e] at h9
                simp at h9 <;> omega
              have hkk : ∀ p ∈ es, p.1 < key2 := fun p hp => by
                have := HRO.out.2.1 p hp
                have := HKY.out.1
                omega
              refine ⟨i + 1, key2, n + acc.length, es ++ [(key2, acc)], ss ++ [.slice al ml cl], (.slice al ml cl, Ix.nums acc) :: rs, rfl, rfl, by omega, by rw [List.length_append, List.length_singleton]; omega, ⟨?_, ?_, H8.2.2.1, ?_, ?_, H8.2.2.2.1, ⟨?_, ?_, ?_⟩⟩, ?_, HKY.out.2.1, fun q hq => HK7.out.2.2.2.2 q (H8.2.2.2.2 q hq)⟩
              · rw [← Ix.withK_gm es key2 acc hne]
                exact H8.1
              · have e9 : kint (es ++ [(key2, acc)]) = kint es ++ [(key2 : Int)] := by simp [kint]
                rw [e9]
                exact H8.2.1
              · rw [List.length_append, List.length_append, HRO.out.1.ssl]
                rfl
              · intro j p hj
                by_cases hjl : j < es.length
                · rw [List.getElem?_append_left hjl] at hj
                  obtain ⟨s, h1, h2⟩ := HRO.out.1.mem j p hj
                  exact ⟨s, by rw [List.getElem?_append_left (by rw [HRO.out.1.ssl]; exact hjl)]; exact h1, List.mem_cons_of_mem _ h2⟩
                · rw [List.getElem?_append_right (by omega)] at hj
                  have hj0 : j - es.length = 0 := by
                    have := (List.getElem?_eq_some_iff.1 hj).1
                    simp at this
                    omega
                  rw [hj0] at hj
                  simp at hj
                  subst hj
                  refine ⟨.slice al ml cl, ?_, List.mem_cons_self⟩
                  rw [List.getElem?_append_right (by rw [HRO.out.1.ssl]; omega), HRO.out.1.ssl, hj0]
                  rfl
              · have h9 := HRO.out.1.fit.1
                have h8 := HRI.out.2.2.1
                rw [List.length_append, List.length_singleton]
                omega
              · exact Ix.okK_snoc es 0 key2 acc HRO.out.1.fit.2.1 (by have := HKY.out.1; omega) hkk (by have := HKY.out.2.1; omega) hne HRI.out.2.1
              · intro p hp
                rcases List.mem_append.1 hp with hp | hp
                · exact HRO.out.1.fit.2.2 p hp
                · rw [List.mem_singleton.1 hp]
                  have h8 := HRI.out.2.2.1
                  show acc.length ≤ 16
                  omega
              · intro p hp
                rcases List.mem_append.1 hp with hp | hp
                · exact Nat.le_of_lt (hkk p hp)
                · rw [List.mem_singleton.1 hp]
                  exact Nat.le_refl _
            clear hr8 hg8 H8 HQ9 HK7
            go_wp2_with fail
            go_roundw
            case rel => exact HF8.out
            case measure => simp [intOf] <;> omega
      · obtain ⟨nn, hnn1, hnnl⟩ : ∃ nn : Nat, nn = 1 ∧ 1 ≤ nn ∧ nn ≤ 16 := ⟨1, rfl, by omega, by omega⟩
        have HN1 : Hid (nn = 1) := hnn1
        clear hnn1
        go_wp2_with fail
        go_loopw [10, 12, 13] (fun ov lv jv w5 => InR w g b base n es u6 u7 ss rs key2 1 ov lv jv w5) (fun _ _ jv _ => 1 - (intOf jv).toNat)
        case atStart => exact ⟨0, o0, [], rfl, rfl, Nat.zero_le _, rfl, HRO.out.1.enter key2, trivial, fun y hy => (by cases hy), by have := HKY.out.2.2; omega, HRO.out.2.2.2⟩
        case round =>
          obtain ⟨k, off, acc, rfl, rfl, hkn, hak, hri, hok, hlo, hob, hmr⟩ := hrel
          by_cases hlt5 : k < 1
          · obtain rfl : k = 0 := by omega
            have HGK : Hid (∀ p ∈ Ix.gm es, p.1 < (key2 : Int)) := fun p hp => by
              obtain ⟨q, hq, rfl⟩ := List.mem_map.1 hp
              have h8 := HRO.out.2.1 q hq
              have h9 := HKY.out.1
              show (q.1 : Int) < _
              omega
            have HAD : Hid (Calls Try.prog 15 #[.pointer (some ⟨g, 0, none⟩), .int .i64 (key2 : Int), .int .i64 (off : Int)] wr fun e w' => e = .returned (.tuple #[]) ∧ MI w' g b base (n + acc.length + 1) (Ix.add (Ix.withK (Ix.gm es) key2 acc) (key2 : Int) (off : Int)) ∧ IFr wr w' (fun q => q = b ∨ Mrow wr b q) ∧ ∀ q, Mrow w' b q → Mrow wr b q ∨ wr.heap.size ≤ q) := ixadd_any g b base (n + acc.length) _ _ _ wr hri.mi (WalkArith.wf_i64 (by have := HKY.out.2.1; omega)) (WalkArith.wf_i64 (by omega)) (by have := HRO.out.1.fit.1; omega)
            have HRI : Hid (RiS w g b base n es u6 u7 ss rs key2 acc u12 wr ∧ Ix.okO true 0 acc ∧ (∀ y ∈ acc, y < off) ∧ off ≤ 1099511627775 + 0 * 1048577 ∧ (∀ q, Mrow wr b q → w.heap.size ≤ q) ∧ acc.length = 0) := ⟨hri, hok, hlo, hob, hmr, hak⟩
            clear hri hok hlo hob hmr
            go_wp2_with fail
            refine HAD.out.mono ?_
            rintro e W5 ⟨rfl, m5, f5, q5⟩
            have H5 : Hid (MI W5 g b base (n + (acc ++ [off]).length) (Ix.withK (Ix.gm es) key2 (acc ++ [off])) ∧ IR w b W5 ((u12, Ix.nums acc) :: (u6, kint es) :: rs) ∧ W5.ownsRow w.heap.size 35 1 u7 ss.length ss ∧ Below w.heap.size w W5 ∧ ∀ q, Mrow W5 b q → w.heap.size ≤ q) := HRI.out.1.add off HGK.out HBW.out HRI.out.2.2.2.2.1 m5 f5 q5
            have HQ9 : Hid ((W5.alloc (.cells #[.int .i64 (off : Int)] 3)).ownsRow w.heap.size 3 1 u12 (Ix.nums acc).length (ivs (Ix.nums acc)) ∧ (W5.alloc (.cells #[.int .i64 (off : Int)] 3)).cell? ⟨W5.heap.size, 0, none⟩ = some (.int .i64 (off : Int)) ∧ w.heap.size ≤ (W5.alloc (.cells #[.int .i64 (off : Int)] 3)).heap.size) := ⟨(H5.out.2.1.own _ List.mem_cons_self).alloc _, (lb_new W5 [.int .i64 (off : Int)] 3).cell 0 _ rfl, by have := H5.out.2.2.2.1.size; rw [heap_one]; omega⟩
            have HLN : Hid ((Ix.nums acc).length ≤ 100000000) := by
              have := HRI.out.2.2.2.2.2
              show _ ≤ _
              unfold Ix.nums
              rw [List.length_map]
              omega
            clear m5 f5 q5 HAD
            go_wp2_with (at_builtin; refine wpList_appIA _ rfl (.tmp 66) (.tmp 68) rfl w.heap.size u12 (Ix.nums acc) rfl HQ9.out.1 W5.heap.size 1 (off : Int) rfl HQ9.out.2.1 HLN.out HQ9.out.2.2 ?_)
            intro ad6 m6 c6 W6 hr6 hg6 hat6
            have H6 := RiS.app H5.out.1 H5.out.2.1 H5.out.2.2.1 H5.out.2.2.2.1 (off : Int) (W5.alloc (.cells #[.int .i64 (off : Int)] 3)) W6 (up0 _ _) (by simpa [ivs] using hr6) hg6 (by rw [heap_one]; exact hat6)
            have cy6 := HGI.out W6 H6.2.2.2.1
            have H7 : Hid (RiS w g b base n es u6 u7 ss rs key2 (acc ++ [off]) (.slice ad6 m6 c6) W6 ∧ ∀ q, Mrow W6 b q → w.heap.size ≤ q) := ⟨⟨H6.1, by have := H6.2.1; unfold Ix.nums at this ⊢; rw [List.map_append]; exact this, H6.2.2.1, H6.2.2.2.1⟩, fun q hq => H5.out.2.2.2.2 q (H6.2.2.2.2 q hq)⟩
            clear hr6 hg6 hat6 H6 HQ9 H5
            obtain ⟨off2, hof2, hof2l⟩ : ∃ off2 : Nat, IntKind.i64.wrap ((off : Int) + 1) = (off2 : Int) ∧ off < off2 ∧ off2 ≤ off + 1048577 := ⟨off + 1, by have := HRI.out.2.2.2.1; rw [IntWalk.i64_in _ (by omega)]; omega, by omega, by omega⟩
            have HNX : Hid (Ix.okO true 0 (acc ++ [off]) ∧ (∀ y ∈ acc ++ [off], y < off2) ∧ off2 ≤ 1099511627775 + (0 + 1) * 1048577 ∧ (acc ++ [off]).length = 0 + 1) := ⟨Ix.okO_snoc acc true 0 off HRI.out.2.1 (Nat.zero_le _) (fun e => by cases e) HRI.out.2.2.1 (by have := HRI.out.2.2.2.1; omega), fun y hy => by
              rcases List.mem_append.1 hy with hy | hy
              · have := HRI.out.2.2.1 y hy
                omega
              · rw [List.mem_singleton.1 hy]
                exact hof2l.1, by have := HRI.out.2.2.2.1; omega, by rw [List.length_append, List.length_singleton, HRI.out.2.2.2.2.2]⟩
            clear hof2l
            go_wp2_with fail
            go_roundw
            case rel => exact ⟨0 + 1, off2, acc ++ [off], by go_num, rfl, by omega, HNX.out.2.2.2, H7.out.1, HNX.out.1, HNX.out.2.1, HNX.out.2.2.1, H7.out.2⟩
            case measure => simp [intOf] <;> omega
          · obtain rfl : k = 1 := by omega
            obtain ⟨al, ml, cl, rfl⟩ : ∃ al ml cl, u12 = .slice al ml cl := by
              rcases (hri.ir.own _ List.mem_cons_self).2 with ⟨e9, -⟩ | ⟨g9, c9, cur9, e9, -⟩ <;> exact ⟨_, _, _, e9⟩
            have HRI : Hid (RiS w g b base n es u6 u7 ss rs key2 acc (.slice al ml cl) wr ∧ Ix.okO true 0 acc ∧ acc.length = 1 ∧ ∀ q, Mrow wr b q → w.heap.size ≤ q) := ⟨hri, hok, hak, hmr⟩
            have HQ8 : Hid ((wr.alloc (.cells #[.int .i64 (key2 : Int)] 3)).ownsRow w.heap.size 3 1 u6 (kint es).length (ivs (kint es)) ∧ (wr.alloc (.cells #[.int .i64 (key2 : Int)] 3)).cell? ⟨wr.heap.size, 0, none⟩ = some (.int .i64 (key2 : Int)) ∧ w.heap.size ≤ (wr.alloc (.cells #[.int .i64 (key2 : Int)] 3)).heap.size) := ⟨(hri.ir.own _ (List.mem_cons_of_mem _ List.mem_cons_self)).alloc _, (lb_new wr [.int .i64 (key2 : Int)] 3).cell 0 _ rfl, by have := hri.bel.size; rw [heap_one]; omega⟩
            have HLK : Hid ((kint es).length ≤ 100000000) := by
              show _ ≤ _
              unfold kint
              rw [List.length_map]
              omega
            have HLS : Hid (ss.length ≤ 100000000) := by have := HRO.out.1.ssl; show _ ≤ _; omega
            clear hri hok hlo hob hmr hak
            go_wp2_with (at_builtin; refine wpList_appIA _ rfl (.tmp 82) (.tmp 84) rfl w.heap.size u6 (kint es) rfl HQ8.out.1 wr.heap.size 1 (key2 : Int) rfl HQ8.out.2.1 HLK.out HQ8.out.2.2 ?_)
            intro ad7 m7 c7 W7 hr7 hg7 hat7
            have H7 := RiS.appK HRI.out.1 (key2 : Int) (wr.alloc (.cells #[.int .i64 (key2 : Int)] 3)) W7 (up0 _ _) (by simpa [ivs] using hr7) hg7 (by rw [heap_one]; exact hat7)
            have HK7 : Hid (MI W7 g b base (n + acc.length) (Ix.withK (Ix.gm es) key2 acc) ∧ IR w b W7 ((.slice ad7 m7 c7, kint es ++ [(key2 : Int)]) :: (.slice al ml cl, Ix.nums acc) :: rs) ∧ W7.ownsRow w.heap.size 35 1 u7 ss.length ss ∧ Below w.heap.size w W7 ∧ ∀ q, Mrow W7 b q → w.heap.size ≤ q) := ⟨H7.1, H7.2.1, H7.2.2.1, H7.2.2.2.1, fun q hq => HRI.out.2.2.2 q (H7.2.2.2.2 q hq)⟩
            have HQ9 : Hid ((W7.alloc (.cells #[.slice al ml cl] 35)).ownsRow w.heap.size 35 1 u7 ss.length ss ∧ (W7.alloc (.cells #[.slice al ml cl] 35)).cell? ⟨W7.heap.size, 0, none⟩ = some (.slice al ml cl) ∧ w.heap.size ≤ (W7.alloc (.cells #[.slice al ml cl] 35)).heap.size) := ⟨H7.2.2.1.alloc _, (lb_new W7 [.slice al ml cl] 35).cell 0 _ rfl, by have := H7.2.2.2.1.size; rw [heap_one]; omega⟩
            clear hr7 hg7 hat7 H7 HQ8
            go_wp2_with (at_builtin; refine wpList_appS _ rfl (.tmp 86) (.tmp 88) rfl w.heap.size u7 ss rfl HQ9.out.1 W7.heap.size 1 al ml cl rfl HQ9.out.2.1 HLS.out HQ9.out.2.2 ?_)
            intro ad8 m8 c8 W8 hr8 hg8
            have H8 := RiS.app2 (s := .slice al ml cl) HK7.out.1 HK7.out.2.1 HK7.out.2.2.1 HK7.out.2.2.2.1 (W7.alloc (.cells #[.slice al ml cl] 35)) W8 (up0 _ _) (by simpa using hr8) hg8
            have HF8 : Hid (OuR w g b base N (.slice ad7 m7 c7) (.slice ad8 m8 c8) (.int .i64 (key2 : Int)) (.int .i64 ((i + 1 : Nat) : Int)) W8) := by
              have hne : acc ≠ [] := fun e => by
                have h9 := HRI.out.2.2.1
                rw [e] at h9
                simp at h9 <;> omega
              have hkk : ∀ p ∈ es, p.1 < key2 := fun p hp => by
                have := HRO.out.2.1 p hp
                have := HKY.out.1
                omega
              refine ⟨i + 1, key2, n + acc.length, es ++ [(key2, acc)], ss ++ [.slice al ml cl], (.slice al ml cl, Ix.nums acc) :: rs, rfl, rfl, by omega, by rw [List.length_append, List.length_singleton]; omega, ⟨?_, ?_, H8.2.2.1, ?_, ?_, H8.2.2.2.1, ⟨?_, ?_, ?_⟩⟩, ?_, HKY.out.2.1, fun q hq => HK7.out.2.2.2.2 q (H8.2.2.2.2 q hq)⟩
              · rw [← Ix.withK_gm es key2 acc hne]
                exact H8.1
              · have e9 : kint (es ++ [(key2, acc)]) = kint es ++ [(key2 : Int)] := by simp [kint]
                rw [e9]
                exact H8.2.1
              · rw [List.length_append, List.length_append, HRO.out.1.ssl]
                rfl
              · intro j p hj
                by_cases hjl : j < es.length
                · rw [List.getElem?_append_left hjl] at hj
                  obtain ⟨s, h1, h2⟩ := HRO.out.1.mem j p hj
                  exact ⟨s, by rw [List.getElem?_append_left (by rw [HRO.out.1.ssl]; exact hjl)]; exact h1, List.mem_cons_of_mem _ h2⟩
                · rw [List.getElem?_append_right (by omega)] at hj
                  have hj0 : j - es.length = 0 := by
                    have := (List.getElem?_eq_some_iff.1 hj).1
                    simp at this
                    omega
                  rw [hj0] at hj
                  simp at hj
                  subst hj
                  refine ⟨.slice al ml cl, ?_, List.mem_cons_self⟩
                  rw [List.getElem?_append_right (by rw [HRO.out.1.ssl]; omega), HRO.out.1.ssl, hj0]
                  rfl
              · have h9 := HRO.out.1.fit.1
                have h8 := HRI.out.2.2.1
                rw [List.length_append, List.length_singleton]
                omega
              · exact Ix.okK_snoc es 0 key2 acc HRO.out.1.fit.2.1 (by have := HKY.out.1; omega) hkk (by have := HKY.out.2.1; omega) hne HRI.out.2.1
              · intro p hp
                rcases List.mem_append.1 hp with hp | hp
                · exact HRO.out.1.fit.2.2 p hp
                · rw [List.mem_singleton.1 hp]
                  have h8 := HRI.out.2.2.1
                  show acc.length ≤ 16
                  omega
              · intro p hp
                rcases List.mem_append.1 hp with hp | hp
                · exact Nat.le_of_lt (hkk p hp)
                · rw [List.mem_singleton.1 hp]
                  exact Nat.le_refl _
            clear hr8 hg8 H8 HQ9 HK7
            go_wp2_with fail
            go_roundw
            case rel => exact HF8.out
            case measure => simp [intOf] <;> omega
    · obtain rfl : i = N := by omega
      have hdec : ((i : Int) < (ps.length : Int)) = True ∧ ((i : Int) < 300) = False ∨ ((i : Int) < (ps.length : Int)) = False := by
        by_cases h1 : i < ps.length
        · exact .inl ⟨by simp; omega, by simp; omega⟩
        · exact .inr (by simp; omega)
      have HRO : Hid (RoS w g b base n es u6 u7 ss rs wr) := hro
      have HEN : Hid (Calls Try.prog 16 #[.pointer (some ⟨g, 0, none⟩)] wr fun e w' => ∃ ad, ∃ m c : Nat, e = .returned (.tuple #[.slice ad m c, .int .i64 0]) ∧ Bs w' (.slice ad m c) (Ix.wrI es) ∧ Below wr.heap.size wr w') := round_enc hro.mi hro.fit.2.1 hro.fit.2.2 (by omega) (by have := hro.fit.1; omega)
      have HDE : Hid (Ix.decodeP (Ix.wrI es) = (0, Ix.gm es) ∧ (Ix.wrI es).length ≤ 60000 ∧ 0 < (Ix.wrI es).length) := ⟨Ix.decode_fwd es hro.fit.2.1 (by omega) (fun q hq => by have := hro.fit.2.2 q hq; omega), Ix.wrI_le es hro.fit.2.1 hro.fit.2.2 (by omega), Ix.wrI_ne es⟩
      have hel : es.length ≤ 300 := by omega
      clear hro hkl hkb hmr HMC HGC hN hei hiN hlt
      rcases hdec with ⟨hd1, hd2⟩ | hd1
      · go_wp2_with fail
        refine HEN.out.mono ?_
        rintro e W2 ⟨ad, m, c, rfl, hb2, be2⟩
        have hm0 : ((m : Int) == 0) = false := by
          obtain ⟨a9, c9, e9, -⟩ := hb2.shape
          simp only [Value.slice.injEq] at e9
          have := HDE.out.2.2
          simp
          omega
        have H2 : Hid (Bs W2 (.slice ad m c) (Ix.wrI es) ∧ Below wr.heap.size wr W2) := ⟨hb2, be2⟩
        have HDC : Hid (Calls Try.prog 17 #[.slice ad m c] W2 fun e w' => ∃ g5 b5 base5 n5, e = .returned (.tuple #[.pointer (some ⟨g5, 0, none⟩), .int .i64 0]) ∧ MI w' g5 b5 base5 n5 (Ix.gm es) ∧ n5 ≤ 60000 ∧ Below W2.heap.size W2 w') := (ixdec_any _ (Ix.wrI es) W2 hb2 (by have := HDE.out.2.1; omega)).mono fun e w' hD => by
          unfold DcPost at hD
          rw [HDE.out.1] at hD
          rcases hD with ⟨-, g5, b5, base5, n5, e1, e2, -, e3, e4⟩ | ⟨h0, -⟩
          · exact ⟨g5, b5, base5, n5, e1, e2, by have := HDE.out.2.1; omega, e4⟩
          · exact absurd rfl h0
        clear hb2 be2 HEN
        go_wp2_with fail
        refine HDC.out.mono ?_
        rintro e W3 ⟨g5, b5, base5, n5, rfl, m5, hn5, be3⟩
        have hrow3 : Ri W3 u6 (kint es) := (Ri.of (HRO.out.ir.own _ List.mem_cons_self)).kept (andThen H2.out.2 be3)
        have H3 : Hid (MI W3 g5 b5 base5 n5 (Ix.gm es) ∧ n5 ≤ 60000 ∧ Below wr.heap.size wr W3 ∧ Ri W3 u6 (kint es)) := ⟨m5, hn5, andThen H2.out.2 be3, hrow3⟩
        have HKE : Hid (Calls Try.prog 19 #[.pointer (some ⟨g5, 0, none⟩)] W3 fun e w' => ∃ v, e = .returned v ∧ Ri w' v (kint es) ∧ Below W3.heap.size W3 w') := by
          have h9 := ixkeys_any g5 b5 base5 n5 (Ix.gm es) W3 m5 (by simp [Ix.gm]; omega)
          have e9 : (Ix.gm es).map (·.1) = kint es := by simp [Ix.gm, kint]
          rw [e9] at h9
          exact h9
        clear m5 hn5 be3 hrow3 HDC H2
        go_wp2_with fail
        refine HKE.out.mono ?_
        rintro e W4 ⟨v4, rfl, r4, be4⟩
        have HSI : Hid (Calls Try.prog 18 #[v4, u6] W4 fun e w' => e = .returned (.bool true) ∧ Below W4.heap.size W4 w') := (ixsamei_any v4 u6 (kint es) (kint es) W4 r4 (H3.out.2.2.2.kept be4)).mono fun e w' ⟨h1, h2⟩ => ⟨by rw [h1, decide_eq_true rfl], h2⟩
        have H4 : Hid (MI W4 g5 b5 base5 n5 (Ix.gm es) ∧ n5 ≤ 60000 ∧ Below wr.heap.size wr W4) := ⟨H3.out.1.kept be4, H3.out.2.1, andThen H3.out.2.2.1 be4⟩
        clear r4 be4 HKE H3
        go_wp2_with fail
        refine HSI.out.mono ?_
        rintro e W5 ⟨rfl, be5⟩
        have H5 : Hid (MI W5 g5 b5 base5 n5 (Ix.gm es) ∧ n5 ≤ 60000 ∧ Below wr.heap.size wr W5) := ⟨H4.out.1.kept be5, H4.out.2.1, andThen H4.out.2.2 be5⟩
        clear be5 HSI H4
        obtain ⟨ka, kc, hke, -, hkc⟩ := Ri.of (HRO.out.ir.own _ List.mem_cons_self)
        have hkl9 : (kint es).length = es.length := by simp [kint]
        simp only at hke hkc
        subst hke
        rw [hkl9]
        have HKC : Hid (∀ j p, es[j]? = some p → ∃ bb oo, ka = some ⟨bb, oo, none⟩ ∧ ∀ W, Below wr.heap.size wr W → W.cell? ⟨bb, oo + j, none⟩ = some (.int .i64 (p.1 : Int))) := fun j p hj => by
          have hjl := (List.getElem?_eq_some_iff.1 hj).1
          obtain ⟨bb, oo, e1, hcell⟩ := hkc (List.ne_nil_of_length_pos (by omega))
          have h1 := hcell j (by omega)
          have e2 : (kint es)[j]'(by omega) = (p.1 : Int) := by
            have h3 := (List.getElem?_eq_some_iff.1 hj).2
            simp [kint, h3]
          rw [e2] at h1
          exact ⟨bb, oo, e1, fun W hW => (hW.cell (p := ⟨bb, oo + j, none⟩) (World.block_lt_of_cell? _ _ h1)).trans h1⟩
        obtain ⟨aa, an, ac, hae, hal, hac⟩ : ∃ aa an ac, u7 = .slice aa an ac ∧ an = es.length ∧ ac ≤ 9223372036854775807 ∧ an ≤ ac := by
          have h9 := HRO.out.all
          have h8 := HRO.out.ssl
          rcases h9.2 with ⟨e1, e2⟩ | ⟨g9, c9, cur9, e1, -, -, h1, h2, -⟩
          · exact ⟨_, _, _, e1, by omega, by omega, by omega⟩
          · unfold maxLen at h2
            exact ⟨_, _, _, e1, by omega, h2, h1⟩
        subst hae hal
        have HAC : Hid (∀ j p, es[j]? = some p → ∃ gb oo : Nat, ∃ sa sn sc, aa = some ⟨gb, 0, none⟩ ∧ (∀ W, Below wr.heap.size wr W → W.cell? ⟨gb, j, none⟩ = some (.slice sa sn sc) ∧ Ri W (.slice sa sn sc) (Ix.nums p.2))) := fun j p hj => by
          have hjl := (List.getElem?_eq_some_iff.1 hj).1
          obtain ⟨s, h1, h2⟩ := HRO.out.mem j p hj
          have hri := Ri.of (HRO.out.ir.own _ (List.mem_cons_of_mem _ h2))
          obtain ⟨sa, sc, e3, -⟩ := id hri
          simp only at e3
          subst e3
          rcases HRO.out.all.2 with ⟨e1, e2⟩ | ⟨g9, c9, cur9, e1, -⟩
          · have := HRO.out.ssl
            omega
          · simp only [Value.slice.injEq] at e1
            obtain ⟨rfl, -, -⟩ := e1
            have h4 := World.ownsRow.cells HRO.out.all (g := g9) rfl j _ h1
            rw [Addr.add_lit, Nat.zero_add] at h4
            exact ⟨g9, 0, sa, _, sc, rfl, fun W hW => ⟨(hW.cell (p := ⟨g9, j, none⟩) (World.block_lt_of_cell? _ _ h4)).trans h4, hri.kept hW⟩⟩
        have HGT : Hid (∀ (W : World) (j : Nat) (p : Nat × List Nat), es[j]? = some p → Below W5.heap.size W5 W → Calls Try.prog 20 #[.pointer (some ⟨g5, 0, none⟩), .int .i64 (p.1 : Int)] W fun e w' => ∃ v', e = .returned v' ∧ (Ri w' v' (Ix.nums p.2) ∧ Below W.heap.size W w')) := fun W j p hj hW => by
          have hpm := List.mem_of_getElem? hj
          have hlo := Ix.okK_lo es 0 HRO.out.fit.2.1 p hpm
          have h9 := ixget_any g5 b5 base5 n5 (Ix.gm es) (p.1 : Int) W (H5.out.1.kept hW) (WalkArith.wf_i64 (by omega)) (by have := H5.out.2.1; omega)
          rw [Ix.get_mem (Ix.gm_rising es 0 HRO.out.fit.2.1) (List.mem_map.2 ⟨p, hpm, rfl⟩)] at h9
          exact h9
        have HB5 : Hid (Below wr.heap.size wr W5 ∧ Below w.heap.size w W5) := ⟨H5.out.2.2, andThen HRO.out.bel H5.out.2.2⟩
        clear hkc H5 HRO HDE
        go_wp2_with fail
        go_loopw [17] (fun iv w9 => ∃ j : Nat, j ≤ es.length ∧ iv = .int .i64 (j : Int) ∧ Below W5.heap.size W5 w9) (fun iv _ => es.length - (intOf iv).toNat)
        case atStart => exact ⟨0, Nat.zero_le _, rfl, Below.refl _ _⟩
        case round =>
          obtain ⟨j, hj, rfl, hbel⟩ := hrel
          by_cases hlj : j < es.length
          · obtain ⟨p, hp⟩ : ∃ p, es[j]? = some p := ⟨es[j], List.getElem?_eq_getElem hlj⟩
            obtain ⟨bb, oo, rfl, hk9⟩ := HKC.out j p hp
            obtain ⟨gb, -, sa, sn, sc, rfl, ha9⟩ := HAC.out j p hp
            have HCC : Hid (∀ W, Below W5.heap.size W5 W → W.cell? ⟨bb, oo + j, none⟩ = some (.int .i64 (p.1 : Int)) ∧ W.cell? ⟨gb, j, none⟩ = some (.slice sa sn sc)) := fun W hW => ⟨hk9 W (andThen HB5.out.1 hW), (ha9 W (andThen HB5.out.1 hW)).1⟩
            have HRR : Hid (∀ W, Below W5.heap.size W5 W → Ri W (.slice sa sn sc) (Ix.nums p.2)) := fun W hW => (ha9 W (andThen HB5.out.1 hW)).2
            have HG2 : Hid (∀ W, Below W5.heap.size W5 W → Calls Try.prog 20 #[.pointer (some ⟨g5, 0, none⟩), .int .i64 (p.1 : Int)] W fun e w' => ∃ v', e = .returned v' ∧ (Ri w' v' (Ix.nums p.2) ∧ Below W.heap.size W w')) := fun W hW => HGT.out W j p hp hW
            clear hk9 ha9 HKC HAC HGT hp
            generalize (p.1 : Int) = pk at *
            generalize Ix.nums p.2 = pz at *
            have B0 : Below W5.heap.size W5 wr.drew := Below.drew hbel
            go_upto_region 33 with fail
            refine wp_region_held_drew (S := fun W : World => W.cell? ⟨bb, oo + j, none⟩ = some (.int .i64 pk) ∧ W.cell? ⟨gb, j, none⟩ = some (.slice sa sn sc)) (by kernel_rfl) (HCC.out _ B0) (fun hH => ?_)
            obtain ⟨V0, hV0⟩ : ∃ x, x = wr.drew := ⟨_, rfl⟩
            rw [← hV0] at B0 hH ⊢
            clear hV0 hbel
            refine zqk 0 rfl hH ?_
            simp only [Act.put, List.setIfInBounds_toArray, List.set_cons_zero, List.set_cons_succ, List.getElem_toArray, List.getElem_cons_zero]
            refine zqk 1 rfl hH ?_
            simp only [Act.put, List.setIfInBounds_toArray, List.set_cons_zero, List.set_cons_succ, List.getElem_toArray, List.getElem_cons_zero, List.getElem_cons_succ]
            refine zqk 2 rfl hH ?_
            simp only [Act.put, List.setIfInBounds_toArray, List.set_cons_zero, List.set_cons_succ, List.getElem_toArray, List.getElem_cons_zero, List.getElem_cons_succ]
            refine zqk 3 rfl hH ?_
            simp only [Act.put, List.setIfInBounds_toArray, List.set_cons_zero, List.set_cons_succ, List.getElem_toArray, List.getElem_cons_zero, List.getElem_cons_succ]
            refine zqk 4 rfl hH ?_
            simp only [Act.put, List.setIfInBounds_toArray, List.set_cons_zero, List.set_cons_succ, List.getElem_toArray, List.getElem_cons_zero, List.getElem_cons_succ]
            refine zqk 6 rfl hH ?_
            simp only [Act.put, List.setIfInBounds_toArray, List.set_cons_zero, List.set_cons_succ, List.getElem_toArray, List.getElem_cons_zero, List.getElem_cons_succ]
            refine zqk 7 rfl hH ?_
            simp only [Act.put, List.setIfInBounds_toArray, List.set_cons_zero, List.set_cons_succ, List.getElem_toArray, List.getElem_cons_zero, List.getElem_cons_succ]
            refine zqk 8 rfl hH ?_
            simp only [Act.put, List.setIfInBounds_toArray, List.set_cons_zero, List.set_cons_succ, List.getElem_toArray, List.getElem_cons_zero, List.getElem_cons_succ]
            refine zqk 9 rfl hH ?_
            simp only [Act.put, List.setIfInBounds_toArray, List.set_cons_zero, List.set_cons_succ, List.getElem_toArray, List.getElem_cons_zero, List.getElem_cons_succ]
            refine zqr 5 rfl (fun K hK => ?_)
            refine st_ixget rfl 126 130 rfl rfl rfl (HG2.out _ B0) (fun v1 V1 r1 => ?_)
            have B1 : Below W5.heap.size W5 V1 := andThen B0 r1.2
            refine hK.out _ _ (HCC.out _ B1) (fun hH => ?_)
            clear hK K
            simp only [Act.put, List.setIfInBounds_toArray, List.set_cons_zero, List.set_cons_succ, List.getElem_toArray, List.getElem_cons_zero, List.getElem_cons_succ]
            refine zqr 10 rfl (fun K hK => ?_)
            refine st_same rfl 131 135 rfl rfl rfl (r1.1) (HRR.out _ B1) (fun V2 b2 => ?_)
            have B2 : Below W5.heap.size W5 V2 := andThen B1 b2
            refine hK.out _ _ (HCC.out _ B2) (fun hH => ?_)
            clear hK K
            simp only [Act.put, List.setIfInBounds_toArray, List.set_cons_zero, List.set_cons_succ, List.getElem_toArray, List.getElem_cons_zero, List.getElem_cons_succ]
            refine zqk 11 rfl hH ?_
            simp only [Act.put, List.setIfInBounds_toArray, List.set_cons_zero, List.set_cons_succ, List.getElem_toArray, List.getElem_cons_zero, List.getElem_cons_succ]
            refine wpAnyH_done (by kernel_rfl) ?_ _
            have HE : Hid (Below W5.heap.size W5 V2) := B2
            clear B0 B1 B2 r1 b2 hH
            go_wp2_with fail
            go_roundw
            case rel => exact ⟨j + 1, by omega, by go_num, HE.out⟩
            case measure => simp [intOf] <;> omega
          · have HE : Hid (Below w.heap.size w wr) := andThen HB5.out.2 hbel
            clear hbel HKC HAC HGT
            go_wp2_with fail
            go_returns
            exact ⟨rfl, HE.out⟩
      · go_wp2_with fail
        refine HEN.out.mono ?_
        rintro e W2 ⟨ad, m, c, rfl, hb2, be2⟩
        have hm0 : ((m : Int) == 0) = false := by
          obtain ⟨a9, c9, e9, -⟩ := hb2.shape
          simp only [Value.slice.injEq] at e9
          have := HDE.out.2.2
          simp
          omega
        have H2 : Hid (Bs W2 (.slice ad m c) (Ix.wrI es) ∧ Below wr.heap.size wr W2) := ⟨hb2, be2⟩
        have HDC : Hid (Calls Try.prog 17 #[.slice ad m c] W2 fun e w' => ∃ g5 b5 base5 n5, e = .returned (.tuple #[.pointer (some ⟨g5, 0, none⟩), .int .i64 0]) ∧ MI w' g5 b5 base5 n5 (Ix.gm es) ∧ n5 ≤ 60000 ∧ Below W2.heap.size W2 w') := (ixdec_any _ (Ix.wrI es) W2 hb2 (by have := HDE.out.2.1; omega)).mono fun e w' hD => by
          unfold DcPost at hD
          rw [HDE.out.1] at hD
          rcases hD with ⟨-, g5, b5, base5, n5, e1, e2, -, e3, e4⟩ | ⟨h0, -⟩
          · exact ⟨g5, b5, base5, n5, e1, e2, by have := HDE.out.2.1; omega, e4⟩
          · exact absurd rfl h0
        clear hb2 be2 HEN
        go_wp2_with fail
        refine HDC.out.mono ?_
        rintro e W3 ⟨g5, b5, base5, n5, rfl, m5, hn5, be3⟩
        have hrow3 : Ri W3 u6 (kint es) := (Ri.of (HRO.out.ir.own _ List.mem_cons_self)).kept (andThen H2.out.2 be3)
        have H3 : Hid (MI W3 g5 b5 base5 n5 (Ix.gm es) ∧ n5 ≤ 60000 ∧ Below wr.heap.size wr W3 ∧ Ri W3 u6 (kint es)) := ⟨m5, hn5, andThen H2.out.2 be3, hrow3⟩
        have HKE : Hid (Calls Try.prog 19 #[.pointer (some ⟨g5, 0, none⟩)] W3 fun e w' => ∃ v, e = .returned v ∧ Ri w' v (kint es) ∧ Below W3.heap.size W3 w') := by
          have h9 := ixkeys_any g5 b5 base5 n5 (Ix.gm es) W3 m5 (by simp [Ix.gm]; omega)
          have e9 : (Ix.gm es).map (·.1) = kint es := by simp [Ix.gm, kint]
          rw [e9] at h9
          exact h9
        clear m5 hn5 be3 hrow3 HDC H2
        go_wp2_with fail
        refine HKE.out.mono ?_
        rintro e W4 ⟨v4, rfl, r4, be4⟩
        have HSI : Hid (Calls Try.prog 18 #[v4, u6] W4 fun e w' => e = .returned (.bool true) ∧ Below W4.heap.size W4 w') := (ixsamei_any v4 u6 (kint es) (kint es) W4 r4 (H3.out.2.2.2.kept be4)).mono fun e w' ⟨h1, h2⟩ => ⟨by rw [h1, decide_eq_true rfl], h2⟩
        have H4 : Hid (MI W4 g5 b5 base5 n5 (Ix.gm es) ∧ n5 ≤ 60000 ∧ Below wr.heap.size wr W4) := ⟨H3.out.1.kept be4, H3.out.2.1, andThen H3.out.2.2.1 be4⟩
        clear r4 be4 HKE H3
        go_wp2_with fail
        refine HSI.out.mono ?_
        rintro e W5 ⟨rfl, be5⟩
        have H5 : Hid (MI W5 g5 b5 base5 n5 (Ix.gm es) ∧ n5 ≤ 60000 ∧ Below wr.heap.size wr W5) := ⟨H4.out.1.kept be5, H4.out.2.1, andThen H4.out.2.2 be5⟩
        clear be5 HSI H4
        obtain ⟨ka, kc, hke, -, hkc⟩ := Ri.of (HRO.out.ir.own _ List.mem_cons_self)
        have hkl9 : (kint es).length = es.length := by simp [kint]
        simp only at hke hkc
        subst hke
        rw [hkl9]
        have HKC : Hid (∀ j p, es[j]? = some p → ∃ bb oo, ka = some ⟨bb, oo, none⟩ ∧ ∀ W, Below wr.heap.size wr W → W.cell? ⟨bb, oo + j, none⟩ = some (.int .i64 (p.1 : Int))) := fun j p hj => by
          have hjl := (List.getElem?_eq_some_iff.1 hj).1
          obtain ⟨bb, oo, e1, hcell⟩ := hkc (List.ne_nil_of_length_pos (by omega))
          have h1 := hcell j (by omega)
          have e2 : (kint es)[j]'(by omega) = (p.1 : Int) := by
            have h3 := (List.getElem?_eq_some_iff.1 hj).2
            simp [kint, h3]
          rw [e2] at h1
          exact ⟨bb, oo, e1, fun W hW => (hW.cell (p := ⟨bb, oo + j, none⟩) (World.block_lt_of_cell? _ _ h1)).trans h1⟩
        obtain ⟨aa, an, ac, hae, hal, hac⟩ : ∃ aa an ac, u7 = .slice aa an ac ∧ an = es.length ∧ ac ≤ 9223372036854775807 ∧ an ≤ ac := by
          have h9 := HRO.out.all
          have h8 := HRO.out.ssl
          rcases h9.2 with ⟨e1, e2⟩ | ⟨g9, c9, cur9, e1, -, -, h1, h2, -⟩
          · exact ⟨_, _, _, e1, by omega, by omega, by omega⟩
          · unfold maxLen at h2
            exact ⟨_, _, _, e1, by omega, h2, h1⟩
        subst hae hal
        have HAC : Hid (∀ j p, es[j]? = some p → ∃ gb oo : Nat, ∃ sa sn sc, aa = some ⟨gb, 0, none⟩ ∧ (∀ W, Below wr.heap.size wr W → W.cell? ⟨gb, j, none⟩ = some (.slice sa sn sc) ∧ Ri W (.slice sa sn sc) (Ix.nums p.2))) := fun j p hj => by
          have hjl := (List.getElem?_eq_some_iff.1 hj).1
          obtain ⟨s, h1, h2⟩ := HRO.out.mem j p hj
          have hri := Ri.of (HRO.out.ir.own _ (List.mem_cons_of_mem _ h2))
          obtain ⟨sa, sc, e3, -⟩ := id hri
          simp only at e3
          subst e3
          rcases HRO.out.all.2 with ⟨e1, e2⟩ | ⟨g9, c9, cur9, e1, -⟩
          · have := HRO.out.ssl
            omega
          · simp only [Value.slice.injEq] at e1
            obtain ⟨rfl, -, -⟩ := e1
            have h4 := World.ownsRow.cells HRO.out.all (g := g9) rfl j _ h1
            rw [Addr.add_lit, Nat.zero_add] at h4
            exact ⟨g9, 0, sa, _, sc, rfl, fun W hW => ⟨(hW.cell (p := ⟨g9, j, none⟩) (World.block_lt_of_cell? _ _ h4)).trans h4, hri.kept hW⟩⟩
        have HGT : Hid (∀ (W : World) (j : Nat) (p : Nat × List Nat), es[j]? = some p → Below W5.heap.size W5 W → Calls Try.prog 20 #[.pointer (some ⟨g5, 0, none⟩), .int .i64 (p.1 : Int)] W fun e w' => ∃ v', e = .returned v' ∧ (Ri w' v' (Ix.nums p.2) ∧ Below W.heap.size W w')) := fun W j p hj hW => by
          have hpm := List.mem_of_getElem? hj
          have hlo := Ix.okK_lo es 0 HRO.out.fit.2.1 p hpm
          have h9 := ixget_any g5 b5 base5 n5 (Ix.gm es) (p.1 : Int) W (H5.out.1.kept hW) (WalkArith.wf_i64 (by omega)) (by have := H5.out.2.1; omega)
          rw [Ix.get_mem (Ix.gm_rising es 0 HRO.out.fit.2.1) (List.mem_map.2 ⟨p, hpm, rfl⟩)] at h9
          exact h9
        have HB5 : Hid (Below wr.heap.size wr W5 ∧ Below w.heap.size w W5) := ⟨H5.out.2.2, andThen HRO.out.bel H5.out.2.2⟩
        clear hkc H5 HRO HDE
        go_wp2_with fail
        go_loopw [17] (fun iv w9 => ∃ j : Nat, j ≤ es.length ∧ iv = .int .i64 (j : Int) ∧ Below W5.heap.size W5 w9) (fun iv _ => es.length - (intOf iv).toNat)
        case atStart => exact ⟨0, Nat.zero_le _, rfl, Below.refl _ _⟩
        case round =>
          obtain ⟨j, hj, rfl, hbel⟩ := hrel
          by_cases hlj : j < es.length
          · obtain ⟨p, hp⟩ : ∃ p, es[j]? = some p := ⟨es[j], List.getElem?_eq_getElem hlj⟩
            obtain ⟨bb, oo, rfl, hk9⟩ := HKC.out j p hp
            obtain ⟨gb, -, sa, sn, sc, rfl, ha9⟩ := HAC.out j p hp
            have HCC : Hid (∀ W, Below W5.heap.size W5 W → W.cell? ⟨bb, oo + j, none⟩ = some (.int .i64 (p.1 : Int)) ∧ W.cell? ⟨gb, j, none⟩ = some (.slice sa sn sc)) := fun W hW => ⟨hk9 W (andThen HB5.out.1 hW), (ha9 W (andThen HB5.out.1 hW)).1⟩
            have HRR : Hid (∀ W, Below W5.heap.size W5 W → Ri W (.slice sa sn sc) (Ix.nums p.2)) := fun W hW => (ha9 W (andThen HB5.out.1 hW)).2
            have HG2 : Hid (∀ W, Below W5.heap.size W5 W → Calls Try.prog 20 #[.pointer (some ⟨g5, 0, none⟩), .int .i64 (p.1 : Int)] W fun e w' => ∃ v', e = .returned v' ∧ (Ri w' v' (Ix.nums p.2) ∧ Below W.heap.size W w')) := fun W hW => HGT.out W j p hp hW
            clear hk9 ha9 HKC HAC HGT hp
            generalize (p.1 : Int) = pk at *
            generalize Ix.nums p.2 = pz at *
            have B0 : Below W5.heap.size W5 wr.drew := Below.drew hbel
            go_upto_region 33 with fail
            refine wp_region_held_drew (S := fun W : World => W.cell? ⟨bb, oo + j, none⟩ = some (.int .i64 pk) ∧ W.cell? ⟨gb, j, none⟩ = some (.slice sa sn sc)) (by kernel_rfl) (HCC.out _ B0) (fun hH => ?_)
            obtain ⟨V0, hV0⟩ : ∃ x, x = wr.drew := ⟨_, rfl⟩
            rw [← hV0] at B0 hH ⊢
            clear hV0 hbel
            refine zqk 0 rfl hH ?_
            simp only [Act.put, List.setIfInBounds_toArray, List.set_cons_zero, List.set_cons_succ, List.getElem_toArray, List.getElem_cons_zero]
            refine zqk 1 rfl hH ?_
            simp only [Act.put, List.setIfInBounds_toArray, List.set_cons_zero, List.set_cons_succ, List.getElem_toArray, List.getElem_cons_zero, List.getElem_cons_succ]
            refine zqk 2 rfl hH ?_
            simp only [Act.put, List.setIfInBounds_toArray, List.set_cons_zero, List.set_cons_succ, List.getElem_toArray, List.getElem_cons_zero, List.getElem_cons_succ]
            refine zqk 3 rfl hH ?_
            simp only [Act.put, List.setIfInBounds_toArray, List.set_cons_zero, List.set_cons_succ, List.getElem_toArray, List.getElem_cons_zero, List.getElem_cons_succ]
            refine zqk 4 rfl hH ?_
            simp only [Act.put, List.setIfInBounds_toArray, List.set_cons_zero, List.set_cons_succ, List.getElem_toArray, List.getElem_cons_zero, List.getElem_cons_succ]
            refine zqk 6 rfl hH ?_
            simp only [Act.put, List.setIfInBounds_toArray, List.set_cons_zero, List.set_cons_succ, List.getElem_toArray, List.getElem_cons_zero, List.getElem_cons_succ]
            refine zqk 7 rfl hH ?_
            simp only [Act.put, List.setIfInBounds_toArray, List.set_cons_zero, List.set_cons_succ, List.getElem_toArray, List.getElem_cons_zero, List.getElem_cons_succ]
            refine zqk 8 rfl hH ?_
            simp only [Act.put, List.setIfInBounds_toArray, List.set_cons_zero, List.set_cons_succ, List.getElem_toArray, List.getElem_cons_zero, List.getElem_cons_succ]
            refine zqk 9 rfl hH ?_
            simp only [Act.put, List.setIfInBounds_toArray, List.set_cons_zero, List.set_cons_succ, List.getElem_toArray, List.getElem_cons_zero, List.getElem_cons_succ]
            refine zqr 5 rfl (fun K hK => ?_)
            refine st_ixget rfl 126 130 rfl rfl rfl (HG2.out _ B0) (fun v1 V1 r1 => ?_)
            have B1 : Below W5.heap.size W5 V1 := andThen B0 r1.2
            refine hK.out _ _ (HCC.out _ B1) (fun hH => ?_)
            clear hK K
            simp only [Act.put, List.setIfInBounds_toArray, List.set_cons_zero, List.set_cons_succ, List.getElem_toArray, List.getElem_cons_zero, List.getElem_cons_succ]
            refine zqr 10 rfl (fun K hK => ?_)
            refine st_same rfl 131 135 rfl rfl rfl (r1.1) (HRR.out _ B1) (fun V2 b2 => ?_)
            have B2 : Below W5.heap.size W5 V2 := andThen B1 b2
            refine hK.out _ _ (HCC.out _ B2) (fun hH => ?_)
            clear hK K
            simp only [Act.put, List.setIfInBounds_toArray, List.set_cons_zero, List.set_cons_succ, List.getElem_toArray, List.getElem_cons_zero, List.getElem_cons_succ]
            refine zqk 11 rfl hH ?_
            simp only [Act.put, List.setIfInBounds_toArray, List.set_cons_zero, List.set_cons_succ, List.getElem_toArray, List.getElem_cons_zero, List.getElem_cons_succ]
            refine wpAnyH_done (by kernel_rfl) ?_ _
            have HE : Hid (Below W5.heap.size W5 V2) := B2
            clear B0 B1 B2 r1 b2 hH
            go_wp2_with fail
            go_roundw
            case rel => exact ⟨j + 1, by omega, by go_num, HE.out⟩
            case measure => simp [intOf] <;> omega
          · have HE : Hid (Below w.heap.size w wr) := andThen HB5.out.2 hbel
            clear hbel HKC HAC HGT
            go_wp2_with fail
            go_returns
            exact ⟨rfl, HE.out⟩
end Go.Proofs.Ytneiokjpbfgioaa
