import Derived.Test.YtneifdbcjicfgaaDoorQP
/-
  TextWords: take's walk.
-/
namespace Go.Proofs.YtneifdbcjicfgaaDoor
open Go Go.RowKit
open Tx

theorem infoWs : (Tryd.prog.info? 25).map (fun i => (i.zero, i.size, i.bytes)) = some (some (.slice none 0 0), 1, 24) := by kernel_rfl
theorem infoIs : (Tryd.prog.info? 3).map (fun i => (i.zero, i.size, i.bytes)) = some (some (.int .i64 0), 1, 8) := by kernel_rfl
/-- the book with four more lists, its first row stored -/
theorem four_map (L : List (Value × Nat × Nat)) (x0 x1 x2 x3 : Value × Nat × Nat) : (L ++ [x0, x1, x2, x3]).length = L.length + 4 ∧ (L ++ [x0, x1, x2, x3]).map (·.1) = L.map (·.1) ++ [x0.1, x1.1, x2.1, x3.1] ∧ ((L ++ [x0, x1, x2, x3]).map fun x => Value.int .i64 (x.2.2 : Int)) = (L.map fun x => Value.int .i64 (x.2.2 : Int)) ++ [.int .i64 (x0.2.2 : Int), .int .i64 (x1.2.2 : Int), .int .i64 (x2.2.2 : Int), .int .i64 (x3.2.2 : Int)] := by
  simp
set_option maxRecDepth 100000 in
set_option maxHeartbeats 8000000 in
theorem take_any (B gb : Nat) (vl vm : Value) (L : List (Value × Nat × Nat)) (v : Value) (l : List Wd) (w : World) (h : Bk B w gb vl vm L) (hv : WdR B w v l) (hne : ∀ x ∈ L, ∀ g, x.1.ownBlock = some g → v.ownBlock ≠ some g) (hB : B ≤ w.heap.size) (hL : L.length ≤ 1000) (hl : l.length ≤ 200000) :
    Calls Tryd.prog 17 #[.pointer (some ⟨gb, 0, none⟩), v] w fun e w' => e = .returned (.tuple #[]) ∧ (∃ vl' vm' g1 g2 g3, Bk B w' gb vl' vm' (L ++ [(v, l.length, L.length + 1), (g1, l.length + 1, L.length + 1), (g2, l.length + 2, L.length + 1), (g3, l.length + 3, L.length + 1)])) ∧ Below B w w' := by
  obtain ⟨al, am, cl, cm, e1, e2, hc1, hc2, hc3, hc4, hx0, hx1, -⟩ := h.shape
  subst e1 e2
  obtain ⟨a, c, e⟩ := hv.shape
  subst e
  unfold maxLen at hc2 hc4
  have hneg : IntKind.wrap .i64 (-((L.length : Int) + 1)) = -((L.length : Int) + 1) := neg_wrap (L.length + 1) (by omega)
  have HB : Hid (Bk B w gb (.slice al L.length cl) (.slice am L.length cm) L ∧ WdR B w (.slice a l.length c) l ∧ (∀ x ∈ L, ∀ g, x.1.ownBlock = some g → (Value.slice a l.length c).ownBlock ≠ some g) ∧ B ≤ w.heap.size) := ⟨h, hv, hne, hB⟩
  clear h hv hne hB
  have HSZ : Hid ((Tryd.prog.info? 24).map (·.size) = some 4) := infoWd1
  have hin := infoWd
  go_enter Tryd.func17, Tryd.ntmps17
  go_upto_region 2 with fail
  obtain ⟨N, hN⟩ : ∃ N : Int, N = (L.length : Int) + 1 := ⟨_, rfl⟩
  obtain ⟨M, hM⟩ : ∃ M : Int, M = -N := ⟨_, rfl⟩
  have HDD : Hid ((⟨M, N, ⟨#[109, 97, 114, 107]⟩, M⟩ : Wd) = mrk (L.length + 1) ∧ N = ((L.length + 1 : Nat) : Int)) := by
    refine ⟨?_, hN⟩
    rw [hM, hN]
    rfl
  rw [← hN, ← hM]
  obtain ⟨WA, hWA⟩ : ∃ WA, WA = w.alloc (.cells #[.int .i64 M, .int .i64 N, .string ⟨#[109, 97, 114, 107]⟩, .int .i64 M] 24) := ⟨_, rfl⟩
  have HS0 : Hid (TkS B w w.heap.size gb (⟨M, N, ⟨#[109, 97, 114, 107]⟩, M⟩ : Wd) (.slice al L.length cl) (.slice am L.length cm) L WA) := by
    show TkS _ _ _ _ _ _ _ _ _
    rw [hWA]
    refine ⟨HB.out.2.2.2, ?_, HB.out.1.kept (up0 _ _), (Below.refl B w).alloc HB.out.2.2.2 _⟩
    show (w.heap.push _)[w.heap.size]? = _
    rw [Array.getElem?_push_size]
    rfl
  have HR0 : Hid (WdR B WA (.slice a l.length c) (filV (⟨M, N, ⟨#[109, 97, 114, 107]⟩, M⟩ : Wd) l 0)) := by
    show WdR _ _ _ _
    rw [hWA, filV_zero]
    exact HB.out.2.1.kept (up0 _ _)
  have HNE : Hid ((∀ x ∈ L, ∀ g, x.1.ownBlock = some g → (Value.slice a l.length c).ownBlock ≠ some g) ∧ (Value.slice a l.length c).ownBlock ≠ some w.heap.size) := ⟨HB.out.2.2.1, fun e => by
    have := (World.ownsRow.lt HB.out.2.1 _ e).2
    omega⟩
  rw [← hWA]
  obtain ⟨gM, hgM⟩ : ∃ gM, gM = w.heap.size := ⟨_, rfl⟩
  rw [← hgM] at HS0 HNE ⊢
  clear hWA hgM hN hM hneg hx0 hx1 HB
  go_wp2
  go_loopw [6] (fun i wr => ∃ k : Nat, k ≤ l.length ∧ i = .int .i64 (k : Int) ∧ WdR B wr (.slice a l.length c) (filV (⟨M, N, ⟨#[109, 97, 114, 107]⟩, M⟩ : Wd) l k) ∧ TkS B w gM gb (⟨M, N, ⟨#[109, 97, 114, 107]⟩, M⟩ : Wd) (.slice al L.length cl) (.slice am L.length cm) L wr) (fun i _ => l.length - (intOf i).toNat)
  case atStart => exact ⟨0, Nat.zero_le _, rfl, HR0.out, HS0.out⟩
  case round =>
    obtain ⟨k, hk, rfl, hs, ht⟩ := hrel
    clear HR0 HS0
    by_cases hlt : k < l.length
    · obtain ⟨gr, rfl, hth, hs2, hg2, hgB⟩ := WdR.fillV hs hlt
      have HT : Hid (wr.there gr (k * 4) 4) := hth
      obtain ⟨m0, m1, m2, m3⟩ := ht.cells
      simp only at m0 m1 m2 m3
      have R : Hid (WdR B (wr.setCells gr (k * 4) [.int .i64 M, .int .i64 N, .string ⟨#[109, 97, 114, 107]⟩, .int .i64 M]) (.slice (some ⟨gr, 0, none⟩) l.length c) (filV (⟨M, N, ⟨#[109, 97, 114, 107]⟩, M⟩ : Wd) l (k + 1)) ∧ TkS B w gM gb (⟨M, N, ⟨#[109, 97, 114, 107]⟩, M⟩ : Wd) (.slice al L.length cl) (.slice am L.length cm) L (wr.setCells gr (k * 4) [.int .i64 M, .int .i64 N, .string ⟨#[109, 97, 114, 107]⟩, .int .i64 M])) := ⟨hs2, ht.grown hs HNE.out.1 HNE.out.2 hg2⟩
      clear hs hs2 hg2 hgB hth ht
      go_wp2_with (refine wpList_store_mid rfl 24 (.tmp 31) (.tmp 30) rfl gr (k * 4) #[.int .i64 M, .int .i64 N, .string ⟨#[109, 97, 114, 107]⟩, .int .i64 M] ?_ ?_ ?_ ?_ ?_ ?_)
      case refine_1 => rfl
      case refine_2 => rfl
      case refine_3 => exact HT.out
      case refine_4 => exact HSZ.out
      case refine_5 =>
        refine all_oneCell_toArray (cs := [.int .i64 M, .int .i64 N, .string ⟨#[109, 97, 114, 107]⟩, .int .i64 M]) fun u hu => ?_
        simp only [List.mem_cons, List.not_mem_nil, or_false] at hu
        rcases hu with rfl | rfl | rfl | rfl <;> rfl
      go_roundw
      case rel => exact ⟨k + 1, by omega, by go_num, R.out.1, R.out.2⟩
      case measure => simp [intOf]; omega
    · obtain rfl : k = l.length := by omega
      rw [filV_end] at hs
      have HK : Hid (MkV (⟨M, N, ⟨#[109, 97, 114, 107]⟩, M⟩ : Wd) B wr (.slice a l.length c) l.length ∧ TkS B w gM gb (⟨M, N, ⟨#[109, 97, 114, 107]⟩, M⟩ : Wd) (.slice al L.length cl) (.slice am L.length cm) L wr) := ⟨mkV_of hs, ht⟩
      obtain ⟨m0, m1, m2, m3⟩ := ht.cells
      simp only at m0 m1 m2 m3
      clear hs ht hlt hk
      have HZ : Hid (∀ o, MkV (⟨M, N, ⟨#[109, 97, 114, 107]⟩, M⟩ : Wd) B (wr.alloc o) (.slice a l.length c) l.length ∧ TkS B w gM gb (⟨M, N, ⟨#[109, 97, 114, 107]⟩, M⟩ : Wd) (.slice al L.length cl) (.slice am L.length cm) L (wr.alloc o) ∧ B ≤ (wr.alloc o).heap.size) := fun o => ⟨HK.out.1.up o, HK.out.2.alloc o, Nat.le_trans (HK.out.2.alloc o).low (HK.out.2.alloc o).bel.size⟩
      go_wp2_with (at_builtin; refine wpList_append_marksV _ rfl (.tmp 32) (.tmp 34) 25 rfl B (⟨M, N, ⟨#[109, 97, 114, 107]⟩, M⟩ : Wd) hin Tryd.underlying25 _ l.length 1 rfl (HZ.out _).1 _ _ rfl (fun j u hj => pat_new (⟨M, N, ⟨#[109, 97, 114, 107]⟩, M⟩ : Wd) wr _ 1 _ rfl j u hj) (by omega) (HZ.out _).2.2 ?_)
      intro v7 w7 hm7 hg7 hk7
      have H7 : Hid (MkV (⟨M, N, ⟨#[109, 97, 114, 107]⟩, M⟩ : Wd) B w7 v7 (l.length + 1) ∧ MkV (⟨M, N, ⟨#[109, 97, 114, 107]⟩, M⟩ : Wd) B w7 (.slice a l.length c) l.length ∧ TkS B w gM gb (⟨M, N, ⟨#[109, 97, 114, 107]⟩, M⟩ : Wd) (.slice al L.length cl) (.slice am L.length cm) L w7) := ⟨hm7, hk7 _ _ (HZ.out _).1, (HZ.out _).2.1.grown (HZ.out _).1 HNE.out.1 HNE.out.2 hg7⟩
      clear hm7 hg7 hk7 HZ HK m0 m1 m2 m3
      obtain ⟨m0, m1, m2, m3⟩ := H7.out.2.2.cells
      simp only at m0 m1 m2 m3
      have HZ : Hid (∀ o, MkV (⟨M, N, ⟨#[109, 97, 114, 107]⟩, M⟩ : Wd) B (w7.alloc o) (.slice a l.length c) l.length ∧ TkS B w gM gb (⟨M, N, ⟨#[109, 97, 114, 107]⟩, M⟩ : Wd) (.slice al L.length cl) (.slice am L.length cm) L (w7.alloc o) ∧ B ≤ (w7.alloc o).heap.size ∧ MkV (⟨M, N, ⟨#[109, 97, 114, 107]⟩, M⟩ : Wd) B (w7.alloc o) v7 (l.length + 1)) := fun o => ⟨H7.out.2.1.up o, H7.out.2.2.alloc o, Nat.le_trans (H7.out.2.2.alloc o).low (H7.out.2.2.alloc o).bel.size, H7.out.1.up o⟩
      go_wp2_with (at_builtin; refine wpList_append_marksV _ rfl (.tmp 36) (.tmp 39) 25 rfl B (⟨M, N, ⟨#[109, 97, 114, 107]⟩, M⟩ : Wd) hin Tryd.underlying25 _ l.length 2 rfl (HZ.out _).1 _ _ rfl (fun j u hj => pat_new (⟨M, N, ⟨#[109, 97, 114, 107]⟩, M⟩ : Wd) w7 _ 2 _ rfl j u hj) (by omega) (HZ.out _).2.2.1 ?_)
      intro v8 w8 hm8 hg8 hk8
      have H8 : Hid (MkV (⟨M, N, ⟨#[109, 97, 114, 107]⟩, M⟩ : Wd) B w8 v8 (l.length + 2) ∧ MkV (⟨M, N, ⟨#[109, 97, 114, 107]⟩, M⟩ : Wd) B w8 (.slice a l.length c) l.length ∧ MkV (⟨M, N, ⟨#[109, 97, 114, 107]⟩, M⟩ : Wd) B w8 v7 (l.length + 1) ∧ TkS B w gM gb (⟨M, N, ⟨#[109, 97, 114, 107]⟩, M⟩ : Wd) (.slice al L.length cl) (.slice am L.length cm) L w8) := ⟨hm8, hk8 _ _ (HZ.out _).1, hk8 _ _ (HZ.out _).2.2.2, (HZ.out _).2.1.grown (HZ.out _).1 HNE.out.1 HNE.out.2 hg8⟩
      clear hm8 hg8 hk8 HZ H7 m0 m1 m2 m3
      obtain ⟨m0, m1, m2, m3⟩ := H8.out.2.2.2.cells
      simp only at m0 m1 m2 m3
      have HZ : Hid (∀ o, MkV (⟨M, N, ⟨#[109, 97, 114, 107]⟩, M⟩ : Wd) B (w8.alloc o) (.slice a l.length c) l.length ∧ TkS B w gM gb (⟨M, N, ⟨#[109, 97, 114, 107]⟩, M⟩ : Wd) (.slice al L.length cl) (.slice am L.length cm) L (w8.alloc o) ∧ B ≤ (w8.alloc o).heap.size ∧ MkV (⟨M, N, ⟨#[109, 97, 114, 107]⟩, M⟩ : Wd) B (w8.alloc o) v7 (l.length + 1) ∧ MkV (⟨M, N, ⟨#[109, 97, 114, 107]⟩, M⟩ : Wd) B (w8.alloc o) v8 (l.length + 2)) := fun o => ⟨H8.out.2.1.up o, H8.out.2.2.2.alloc o, Nat.le_trans (H8.out.2.2.2.alloc o).low (H8.out.2.2.2.alloc o).bel.size, H8.out.2.2.1.up o, H8.out.1.up o⟩
      go_wp2_with (at_builtin; refine wpList_append_marksV _ rfl (.tmp 41) (.tmp 45) 25 rfl B (⟨M, N, ⟨#[109, 97, 114, 107]⟩, M⟩ : Wd) hin Tryd.underlying25 _ l.length 3 rfl (HZ.out _).1 _ _ rfl (fun j u hj => pat_new (⟨M, N, ⟨#[109, 97, 114, 107]⟩, M⟩ : Wd) w8 _ 3 _ rfl j u hj) (by omega) (HZ.out _).2.2.1 ?_)
      intro v9 w9 hm9 hg9 hk9
      have H9 : Hid (MkV (⟨M, N, ⟨#[109, 97, 114, 107]⟩, M⟩ : Wd) B w9 v9 (l.length + 3) ∧ MkV (⟨M, N, ⟨#[109, 97, 114, 107]⟩, M⟩ : Wd) B w9 (.slice a l.length c) l.length ∧ MkV (⟨M, N, ⟨#[109, 97, 114, 107]⟩, M⟩ : Wd) B w9 v7 (l.length + 1) ∧ MkV (⟨M, N, ⟨#[109, 97, 114, 107]⟩, M⟩ : Wd) B w9 v8 (l.length + 2) ∧ TkS B w gM gb (⟨M, N, ⟨#[109, 97, 114, 107]⟩, M⟩ : Wd) (.slice al L.length cl) (.slice am L.length cm) L w9) := ⟨hm9, hk9 _ _ (HZ.out _).1, hk9 _ _ (HZ.out _).2.2.2.1, hk9 _ _ (HZ.out _).2.2.2.2, (HZ.out _).2.1.grown (HZ.out _).1 HNE.out.1 HNE.out.2 hg9⟩
      clear hm9 hg9 hk9 HZ H8 m0 m1 m2 m3
      have H9' := H9
      obtain ⟨a7, c7, e7⟩ := H9.out.2.2.1.wd.shape
      rw [List.length_replicate] at e7
      subst e7
      obtain ⟨a8, c8, e8⟩ := H9.out.2.2.2.1.wd.shape
      rw [List.length_replicate] at e8
      subst e8
      obtain ⟨a9, c9, e9⟩ := H9.out.1.wd.shape
      rw [List.length_replicate] at e9
      subst e9
      clear H9'
      have HH : Hid (Hb B w9 gb (.slice al L.length cl) (.slice am L.length cm) L.length L.length (L.map (·.1)) (L.map fun x => .int .i64 (x.2.2 : Int)) (L ++ [(.slice a l.length c, l.length, L.length + 1), (.slice a7 (l.length + 1) c7, l.length + 1, L.length + 1), (.slice a8 (l.length + 2) c8, l.length + 2, L.length + 1), (.slice a9 (l.length + 3) c9, l.length + 3, L.length + 1)]) ∧ Below B w w9 ∧ B ≤ w9.heap.size) := by
        have h9 := H9.out
        rw [HDD.out.1] at h9
        refine ⟨⟨h9.2.2.2.2.bk.low, h9.2.2.2.2.bk.cells, h9.2.2.2.2.bk.r1, h9.2.2.2.2.bk.r2, fun x hx => ?_⟩, h9.2.2.2.2.bel, Nat.le_trans h9.2.2.2.2.low h9.2.2.2.2.bel.size⟩
        rcases List.mem_append.1 hx with hx | hx
        · exact h9.2.2.2.2.bk.ls x hx
        · simp only [List.mem_cons, List.not_mem_nil, or_false] at hx
          rcases hx with rfl | rfl | rfl | rfl
          · exact h9.2.1
          · exact h9.2.2.1
          · exact h9.2.2.2.1
          · exact h9.1
      clear H9
      generalize hLL : (L ++ [(Value.slice a l.length c, l.length, L.length + 1), (.slice a7 (l.length + 1) c7, l.length + 1, L.length + 1), (.slice a8 (l.length + 2) c8, l.length + 2, L.length + 1), (.slice a9 (l.length + 3) c9, l.length + 3, L.length + 1)]) = LL at HH
      have HLL : Hid ((L ++ [(Value.slice a l.length c, l.length, L.length + 1), (.slice a7 (l.length + 1) c7, l.length + 1, L.length + 1), (.slice a8 (l.length + 2) c8, l.length + 2, L.length + 1), (.slice a9 (l.length + 3) c9, l.length + 3, L.length + 1)]) = LL) := hLL
      clear hLL
      have x0 := heap_cell HH.out.1.cells 0 _ rfl
      have HZ : Hid (∀ o, Hb B (w9.alloc o) gb (.slice al L.length cl) (.slice am L.length cm) L.length L.length (L.map (·.1)) (L.map fun x => .int .i64 (x.2.2 : Int)) LL ∧ Below B w (w9.alloc o) ∧ B ≤ (w9.alloc o).heap.size) := fun o => ⟨HH.out.1.kept (up0 _ _), HH.out.2.1.alloc HH.out.2.2 o, Nat.le_trans HH.out.2.2 (up0 w9 o).size⟩
      go_wp2_with (at_builtin; refine wpList_append_four _ rfl (.tmp 51) (.tmp 56) 25 48 (.slice none 0 0) 24 rfl B infoWs rfl (by decide) Tryd.underlying48 _ L.length (L.map (·.1)) rfl (HZ.out _).1.r1 _ _ _ _ _ rfl (fun j u hj => new_four w9 _ (.slice a l.length c) (.slice a7 (l.length + 1) c7) (.slice a8 (l.length + 2) c8) (.slice a9 (l.length + 3) c9) j u hj) (fun u hu => by simp only [List.mem_cons, List.not_mem_nil, or_false] at hu; rcases hu with rfl | rfl | rfl | rfl <;> rfl) (by omega) (HZ.out _).2.2 ?_)
      intro vl0 w10 hr10 hg10
      obtain ⟨a10, c10, e10, -, -, -⟩ := row_cells hr10
      subst e10
      obtain ⟨q0, z0, hh10⟩ := (HZ.out _).1.put1 hg10 hr10
      have hb10 : Below B w w10 := (HZ.out _).2.1.grown hg10 (HZ.out _).2.2 fun g e => (World.ownsRow.lt HH.out.1.r1 g e).1
      obtain ⟨WB, hWB⟩ : ∃ WB, WB = w10.setCell ⟨gb, 0, none⟩ (.slice a10 (L.length + 4) c10) := ⟨_, rfl⟩
      rw [← hWB] at hh10
      have HWE : Hid (WB = w10.setCell ⟨gb, 0, none⟩ (.slice a10 (L.length + 4) c10)) := hWB
      have HB2 : Hid (Hb B WB gb (.slice a10 (L.length + 4) c10) (.slice am L.length cm) (L.length + 4) L.length (L.map (·.1) ++ [.slice a l.length c, .slice a7 (l.length + 1) c7, .slice a8 (l.length + 2) c8, .slice a9 (l.length + 3) c9]) (L.map fun x => .int .i64 (x.2.2 : Int)) LL ∧ Below B w WB ∧ B ≤ WB.heap.size) := by
        refine ⟨hh10, ?_, ?_⟩
        · rw [hWB]
          exact hb10.setCell (p := ⟨gb, 0, none⟩) hh10.low _
        · have h8 := (HZ.out (.cells #[.slice a l.length c, .slice a7 (l.length + 1) c7, .slice a8 (l.length + 2) c8, .slice a9 (l.length + 3) c9] 25)).2.2
          rw [hWB]
          show B ≤ (w10.heap.modify _ _).size
          rw [Array.size_modify]
          exact Nat.le_trans h8 hg10.size
      clear hr10 hg10 hh10 hb10 hWB HZ HH x0
      go_upto_region 10 with fail
      rw [← HWE.out]
      clear HWE q0 z0
      have x1 := heap_cell HB2.out.1.cells 1 _ rfl
      have HZ : Hid (∀ o, Hb B (WB.alloc o) gb (.slice a10 (L.length + 4) c10) (.slice am L.length cm) (L.length + 4) L.length (L.map (·.1) ++ [.slice a l.length c, .slice a7 (l.length + 1) c7, .slice a8 (l.length + 2) c8, .slice a9 (l.length + 3) c9]) (L.map fun x => .int .i64 (x.2.2 : Int)) LL ∧ Below B w (WB.alloc o) ∧ B ≤ (WB.alloc o).heap.size) := fun o => ⟨HB2.out.1.kept (up0 _ _), HB2.out.2.1.alloc HB2.out.2.2 o, Nat.le_trans HB2.out.2.2 (up0 WB o).size⟩
      go_wp2_with (at_builtin; refine wpList_append_four _ rfl (.tmp 64) (.tmp 69) 3 27 (.int .i64 0) 8 rfl B infoIs rfl (by decide) Tryd.underlying27 _ L.length (L.map fun x => .int .i64 (x.2.2 : Int)) rfl (HZ.out _).1.r2 _ _ _ _ _ rfl (fun j u hj => new_four WB _ (.int .i64 N) (.int .i64 N) (.int .i64 N) (.int .i64 N) j u hj) (fun u hu => by simp only [List.mem_cons, List.not_mem_nil, or_false] at hu; rcases hu with rfl | rfl | rfl | rfl <;> rfl) (by omega) (HZ.out _).2.2 ?_)
      intro vm0 w11 hr11 hg11
      obtain ⟨a11, c11, e11, -, -, -⟩ := row_cells hr11
      subst e11
      obtain ⟨q1, z1, hh11⟩ := (HZ.out _).1.put2 hg11 hr11
      have hb11 : Below B w w11 := (HZ.out _).2.1.grown hg11 (HZ.out _).2.2 fun g e => (World.ownsRow.lt HB2.out.1.r2 g e).1
      have HF : Hid ((∃ vl' vm' g1 g2 g3, Bk B (w11.setCell ⟨gb, 1, none⟩ (.slice a11 (L.length + 4) c11)) gb vl' vm' (L ++ [(.slice a l.length c, l.length, L.length + 1), (g1, l.length + 1, L.length + 1), (g2, l.length + 2, L.length + 1), (g3, l.length + 3, L.length + 1)])) ∧ Below B w (w11.setCell ⟨gb, 1, none⟩ (.slice a11 (L.length + 4) c11))) := by
        refine ⟨⟨(.slice a10 (L.length + 4) c10), (.slice a11 (L.length + 4) c11), .slice a7 (l.length + 1) c7, .slice a8 (l.length + 2) c8, .slice a9 (l.length + 3) c9, ?_⟩, hb11.setCell (p := ⟨gb, 1, none⟩) hh11.low _⟩
        have hf := four_map L (.slice a l.length c, l.length, L.length + 1) (.slice a7 (l.length + 1) c7, l.length + 1, L.length + 1) (.slice a8 (l.length + 2) c8, l.length + 2, L.length + 1) (.slice a9 (l.length + 3) c9, l.length + 3, L.length + 1)
        rw [HLL.out] at hf ⊢
        refine ⟨hh11.low, hh11.cells, ?_, ?_, hh11.ls⟩
        · rw [hf.1, hf.2.1]
          exact hh11.r1
        · rw [hf.1, hf.2.2]
          have h8 := hh11.r2
          rw [HDD.out.2] at h8
          exact h8
      clear hr11 hg11 hh11 hb11 HZ HB2 x1 HLL HDD
      go_wp2
      go_end0
      exact ⟨rfl, HF.out⟩
end Go.Proofs.YtneifdbcjicfgaaDoor
