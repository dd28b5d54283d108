/- show's printer: a node of one input, one output and one equation; Exp at a literal. -/
import Derived.Test.YtachmiajldeakaaGreatDoorShN
namespace Go.Proofs.YtachmiajldeakaaGreatDoor
open Go.RowKit Go.Maps Go.WideMaps

theorem lineN (B b : Nat) (l : List UInt8) (ts : List ByteArray) (cs : Array Value) (n : Nat) (w w3 : World) (h : Pr B b l w) (hBw : B ≤ w.heap.size) (hg : w.grownBy w3 none) (hcs : cs = (ts.map Value.string).toArray) (hn : n = ts.length) (hn2 : ts.length ≤ 100) (hlen : l.length + (tx ts).length ≤ 90000) :
    Calls Tryz.prog 40 #[.pointer (some ⟨b, 0, none⟩), .int .i64 0, .slice (some ⟨w3.heap.size, 0, none⟩) n n] (w3.alloc (.cells cs 9)) fun e w' => e = .returned (.tuple #[]) ∧ (Pr B b (l ++ tx ts ++ [10]) w' ∧ Kb B b w w') ∧ Kb B b (w3.alloc (.cells cs 9)) w' := by
  subst hcs hn
  have hs := hg.size
  refine (line0 B b l ts w3.heap.size ts.length _ ((h.grown hg).alloc _) (by rw [World.size_alloc]; omega) (Tx.new w3 ts) hn2 hlen).mono ?_
  rintro e w' ⟨rfl, h1, k1⟩
  exact ⟨rfl, ⟨h1, (((Kb.refl B b w).grown hBw hg).alloc (by omega) _).trans k1⟩, k1⟩

/-- what is known of a node of one input, one output and one equation -/
structure OneNode (w0 : World) (B0 : Nat) (i o : UInt8) (x : Gram.Exp) (gi gu gt gn cn : Nat) (ia oa : Option Addr) (iN iC oN oC : Nat) (ka : Option Addr) (kn kc : Nat) (sa : Option Addr) (sc : Nat) (ai ao at_ : Int) : Prop where
  i0 : w0.cell? ⟨gi, 0, none⟩ = some (.string ⟨#[i]⟩)
  i1 : w0.cell? ⟨gi, 1, none⟩ = some (.int .i64 2)
  i2 : w0.cell? ⟨gi, 2, none⟩ = some (.int .i64 0)
  i3 : w0.cell? ⟨gi, 3, none⟩ = some (.slice ia iN iC)
  i4 : w0.cell? ⟨gi, 4, none⟩ = some (.int .i64 ai)
  o0 : w0.cell? ⟨gu, 0, none⟩ = some (.string ⟨#[o]⟩)
  o1 : w0.cell? ⟨gu, 1, none⟩ = some (.int .i64 2)
  o2 : w0.cell? ⟨gu, 2, none⟩ = some (.int .i64 0)
  o3 : w0.cell? ⟨gu, 3, none⟩ = some (.slice oa oN oC)
  o4 : w0.cell? ⟨gu, 4, none⟩ = some (.int .i64 ao)
  nm : w0.cell? ⟨gn, 0, none⟩ = some (.string ⟨#[o]⟩)
  row : RepRow w0 B0 [] (expD x) (expCells x (.slice ka kn kc))
  item : ∀ j u, (itemC gn cn x (.slice ka kn kc) sa sc at_)[j]? = some u → w0.cell? ⟨gt, j, none⟩ = some u

def nodeT (f i o : UInt8) (t : List UInt8) : List UInt8 :=
  [110, 111, 100, 101, 32, f, 40, i, 58, 32, 105, 56, 41, 32, 114, 101, 116, 117, 114, 110, 115, 32, 40, o, 58, 32, 105, 56, 41, 10, 108, 101, 116, 10] ++ (32 :: o :: 32 :: 61 :: 32 :: (t ++ [59, 10])) ++ [116, 101, 108, 10]

set_option maxHeartbeats 8000000 in
set_option maxRecDepth 100000 in
theorem node_one (w0 : World) (B0 b : Nat) (f i o : UInt8) (x : Gram.Exp) (t : List UInt8) (gi ci gu cu gt ct gn cn : Nat) (ia oa : Option Addr) (iN iC oN oC : Nat) (la : Option Addr) (lc : Nat) (ka : Option Addr) (kn kc : Nat) (sa : Option Addr) (sc : Nat) (ai ao at_ an : Int) (w : World) (h : Pr w0.heap.size b [] w) (hw : w0.grownBy w none) (H : OneNode w0 B0 i o x gi gu gt gn cn ia oa iN iC oN oC ka kn kc sa sc ai ao at_) (p : Prints w0 B0 b x t) (hlen : t.length ≤ 60000) :
    Calls Tryz.prog 25 #[.pointer (some ⟨b, 0, none⟩), .agg #[.string ⟨#[f]⟩, .slice (some ⟨gi, 0, none⟩) 1 ci, .slice (some ⟨gu, 0, none⟩) 1 cu, .slice la 0 lc, .slice (some ⟨gt, 0, none⟩) 1 ct, .int .i64 an]] w fun e w' => e = .returned (.tuple #[]) ∧ Pr w0.heap.size b (nodeT f i o t) w' ∧ Kb w0.heap.size b w w' := by
  have hbl : w.heap.size ≠ b := by have := h.lt; omega
  have hdi := fun (W : World) (hg : w0.grownBy W none) => decls_one i gi ci ia iN iC ai W (hg.cell H.i0 (by simp)) (hg.cell H.i1 (by simp)) (hg.cell H.i2 (by simp)) (hg.cell H.i3 (by simp)) (hg.cell H.i4 (by simp))
  have hdo := fun (W : World) (hg : w0.grownBy W none) => decls_one o gu cu oa oN oC ao W (hg.cell H.o0 (by simp)) (hg.cell H.o1 (by simp)) (hg.cell H.o2 (by simp)) (hg.cell H.o3 (by simp)) (hg.cell H.o4 (by simp))
  have hln := fun (W : World) (hg : w.grownBy W none) => lineN w0.heap.size b [] [⟨#[110, 111, 100, 101, 32]⟩, ⟨#[f]⟩, ⟨#[40]⟩, ⟨#[i, 58, 32, 105, 56]⟩, ⟨#[41, 32, 114, 101, 116, 117, 114, 110, 115, 32, 40]⟩, ⟨#[o, 58, 32, 105, 56]⟩, ⟨#[41]⟩] #[.string ⟨#[110, 111, 100, 101, 32]⟩, .string ⟨#[f]⟩, .string ⟨#[40]⟩, .string ⟨#[i, 58, 32, 105, 56]⟩, .string ⟨#[41, 32, 114, 101, 116, 117, 114, 110, 115, 32, 40]⟩, .string ⟨#[o, 58, 32, 105, 56]⟩, .string ⟨#[41]⟩] 7 w W h hw.size hg rfl rfl (by simp) (by simp [tx])
  have hit := fun (l : List UInt8) (W : World) (h1 : Pr w0.heap.size b l W) (hg : w0.grownBy W none) (h2 : l.length ≤ 1000) => items_one w0 B0 b l o gt ct gn cn x t ka kn kc sa sc at_ W h1 hg H.nm H.row p (by omega) H.item
  have HDI := Lib.hid hdi
  have HDO := Lib.hid hdo
  have HLN := Lib.hid hln
  have HIT := Lib.hid hit
  clear hdi hdo hln hit p H
  go_enter Tryz.func25, Tryz.ntmps25
  go_wp2
  obtain ⟨W, hW⟩ : ∃ W, W = (w.alloc (.cells #[.string ⟨#[f]⟩, .slice (some ⟨gi, 0, none⟩) 1 ci, .slice (some ⟨gu, 0, none⟩) 1 cu, .slice la 0 lc, .slice (some ⟨gt, 0, none⟩) 1 ct, .int .i64 an] 45)).drew := ⟨_, rfl⟩
  have hg0 : w.grownBy W none := by
    have := World.grownBy_alloc w (.cells #[.string ⟨#[f]⟩, .slice (some ⟨gi, 0, none⟩) 1 ci, .slice (some ⟨gu, 0, none⟩) 1 cu, .slice la 0 lc, .slice (some ⟨gt, 0, none⟩) 1 ct, .int .i64 an] 45) none
    rw [hW]
    exact ⟨this.os, this.tape, this.output, this.size, this.block⟩
  have hS0 : W.heap[w.heap.size]? = some (.cells #[.string ⟨#[f]⟩, .slice (some ⟨gi, 0, none⟩) 1 ci, .slice (some ⟨gu, 0, none⟩) 1 cu, .slice la 0 lc, .slice (some ⟨gt, 0, none⟩) 1 ct, .int .i64 an] 45 (0, 0)) := by rw [hW]; exact heap_alloc_new w _
  have HG := Lib.hid hg0
  refine wp_region_L (S := fun V => V.heap[w.heap.size]? = some (.cells #[.string ⟨#[f]⟩, .slice (some ⟨gi, 0, none⟩) 1 ci, .slice (some ⟨gu, 0, none⟩) 1 cu, .slice la 0 lc, .slice (some ⟨gt, 0, none⟩) 1 ct, .int .i64 an] 45 (0, 0))) (Z := []) (by kernel_rfl) ?_
  rw [← hW]
  clear hW hg0
  refine t1 0 4 (.pointer (some ⟨b, 0, none⟩)) hS0 ?_
  (try simp only [Act.put, sA, sB, sC])
  refine t1 1 5 (.pointer (some ⟨w.heap.size, 0, none⟩)) hS0 ?_
  (try simp only [Act.put, sA, sB, sC])
  refine t2 2 6 (.string ⟨#[f]⟩) (fun w' hw' => ?_) hS0 ?_
  · have hc0 := cell_of_row w' _ 0 _ _ _ hw'; clear hw'; go_simp
  (try simp only [Act.put, sA, sB, sC])
  refine t1 3 7 (.pointer (some ⟨w.heap.size, 1, none⟩)) hS0 ?_
  (try simp only [Act.put, sA, sB, sC])
  refine t2 4 8 (.slice (some ⟨gi, 0, none⟩) 1 ci) (fun w' hw' => ?_) hS0 ?_
  · have hc0 := cell_of_row w' _ 1 _ _ _ hw'; clear hw'; go_simp
  (try simp only [Act.put, sA, sB, sC])
  refine t1 6 10 (.pointer (some ⟨w.heap.size, 2, none⟩)) hS0 ?_
  (try simp only [Act.put, sA, sB, sC])
  refine t2 7 11 (.slice (some ⟨gu, 0, none⟩) 1 cu) (fun w' hw' => ?_) hS0 ?_
  · have hc0 := cell_of_row w' _ 2 _ _ _ hw'; clear hw'; go_simp
  (try simp only [Act.put, sA, sB, sC])
  refine wpL_call (i := 5) (d := 9) (R := fun v w' => v = .string ⟨#[i, 58, 32, 105, 56]⟩ ∧ W.grownBy w' none) (by kernel_rfl) rfl (by kernel_rfl) (by kernel_rfl) (by kernel_rfl) ((HDI.out W (hw.trans HG.out)).mono fun e w' he => ⟨_, he.1, rfl, he.2⟩) (fun v w' hR => (hR.2.block _ (Array.getElem?_eq_some_iff.1 hS0).1 (by simp)).trans hS0) (fun v w2 hR => ?_)
  obtain ⟨rfl, hg2⟩ := hR
  have hS2 : w2.heap[w.heap.size]? = some (.cells #[.string ⟨#[f]⟩, .slice (some ⟨gi, 0, none⟩) 1 ci, .slice (some ⟨gu, 0, none⟩) 1 cu, .slice la 0 lc, .slice (some ⟨gt, 0, none⟩) 1 ct, .int .i64 an] 45 (0, 0)) := (hg2.block _ (Array.getElem?_eq_some_iff.1 hS0).1 (by simp)).trans hS0
  (try simp only [Act.put, sA, sB, sC])
  refine wpL_call (i := 8) (d := 12) (R := fun v w' => v = .string ⟨#[o, 58, 32, 105, 56]⟩ ∧ w2.grownBy w' none) (by kernel_rfl) rfl (by kernel_rfl) (by kernel_rfl) (by kernel_rfl) ((HDO.out w2 (hw.trans (HG.out.trans hg2))).mono fun e w' he => ⟨_, he.1, rfl, he.2⟩) (fun v w' hR => (hR.2.block _ (Array.getElem?_eq_some_iff.1 hS2).1 (by simp)).trans hS2) (fun v w3 hR => ?_)
  obtain ⟨rfl, hg3⟩ := hR
  have hS3 : w3.heap[w.heap.size]? = some (.cells #[.string ⟨#[f]⟩, .slice (some ⟨gi, 0, none⟩) 1 ci, .slice (some ⟨gu, 0, none⟩) 1 cu, .slice la 0 lc, .slice (some ⟨gt, 0, none⟩) 1 ct, .int .i64 an] 45 (0, 0)) := (hg3.block _ (Array.getElem?_eq_some_iff.1 hS2).1 (by simp)).trans hS2
  (try simp only [Act.put, sA, sB, sC])
  have hS4 : (w3.alloc (.cells #[.string ⟨#[110, 111, 100, 101, 32]⟩, .string ⟨#[f]⟩, .string ⟨#[40]⟩, .string ⟨#[i, 58, 32, 105, 56]⟩, .string ⟨#[41, 32, 114, 101, 116, 117, 114, 110, 115, 32, 40]⟩, .string ⟨#[o, 58, 32, 105, 56]⟩, .string ⟨#[41]⟩] 9)).heap[w.heap.size]? = some (.cells #[.string ⟨#[f]⟩, .slice (some ⟨gi, 0, none⟩) 1 ci, .slice (some ⟨gu, 0, none⟩) 1 cu, .slice la 0 lc, .slice (some ⟨gt, 0, none⟩) 1 ct, .int .i64 an] 45 (0, 0)) := ((World.grownBy_alloc w3 _ none).block _ (Array.getElem?_eq_some_iff.1 hS3).1 (by simp)).trans hS3
  refine wpL_val (i := 9) (d := 13) (v := .slice (some ⟨w3.heap.size, 0, none⟩) 7 7) (w' := w3.alloc (.cells #[.string ⟨#[110, 111, 100, 101, 32]⟩, .string ⟨#[f]⟩, .string ⟨#[40]⟩, .string ⟨#[i, 58, 32, 105, 56]⟩, .string ⟨#[41, 32, 114, 101, 116, 117, 114, 110, 115, 32, 40]⟩, .string ⟨#[o, 58, 32, 105, 56]⟩, .string ⟨#[41]⟩] 9)) (by kernel_rfl) rfl (by kernel_rfl) (by kernel_rfl) (by kernel_rfl) hS4 ?_
  (try simp only [Act.put, sA, sB, sC])
  refine wpL_call (i := 10) (d := 14) (R := fun v w' => v = .tuple #[] ∧ (Pr w0.heap.size b (([] : List UInt8) ++ tx [⟨#[110, 111, 100, 101, 32]⟩, ⟨#[f]⟩, ⟨#[40]⟩, ⟨#[i, 58, 32, 105, 56]⟩, ⟨#[41, 32, 114, 101, 116, 117, 114, 110, 115, 32, 40]⟩, ⟨#[o, 58, 32, 105, 56]⟩, ⟨#[41]⟩] ++ [10]) w' ∧ Kb w0.heap.size b w w') ∧ Kb w0.heap.size b (w3.alloc (.cells #[.string ⟨#[110, 111, 100, 101, 32]⟩, .string ⟨#[f]⟩, .string ⟨#[40]⟩, .string ⟨#[i, 58, 32, 105, 56]⟩, .string ⟨#[41, 32, 114, 101, 116, 117, 114, 110, 115, 32, 40]⟩, .string ⟨#[o, 58, 32, 105, 56]⟩, .string ⟨#[41]⟩] 9)) w') (by kernel_rfl) rfl (by kernel_rfl) (by kernel_rfl) (by kernel_rfl) ((HLN.out w3 (HG.out.trans (hg2.trans hg3))).mono fun e w' he => ⟨_, he.1, rfl, he.2⟩) (fun v w' hR => hR.2.2.row hS4 hbl (by decide)) (fun v w5 hR => ?_)
  obtain ⟨rfl, ⟨h5, k5⟩, k5'⟩ := hR
  have hS5 := k5'.row hS4 hbl (by decide)
  have hw5 : w0.grownBy w5 none := Kb.on hw k5
  have c3 := cell_of_row w5 _ 3 _ _ _ hS5
  have h5' : Pr w0.heap.size b [110, 111, 100, 101, 32, f, 40, i, 58, 32, 105, 56, 41, 32, 114, 101, 116, 117, 114, 110, 115, 32, 40, o, 58, 32, 105, 56, 41, 10] w5 := by simpa [tx] using h5
  have hlet := lineN w0.heap.size b _ [⟨#[108, 101, 116]⟩] #[.string ⟨#[108, 101, 116]⟩] 1 w5 w5 h5' hw5.size (World.grownBy.refl _ _) rfl rfl (by simp) (by simp [tx])
  have HS5 := Lib.hid hS5
  have HK5 := Lib.hid (And.intro k5 hw5)
  clear h5 k5 k5' hS5 hw5 h5' hS4 hS3 hS2 hS0 hg2 hg3 HLN HDI HDO
  (try simp only [Act.put, sA, sB, sC])
  refine wpL_done (by kernel_rfl) ?_ _
  have hlo := fun wx => locals_none b la lc wx
  go_wp2_with (first
    | (go_at_call 42; refine (hlo _).mono ?_; rintro e w' ⟨rfl, hw'⟩; obtain rfl := hw'.symm)
    | (go_at_call 40; refine hlet.mono ?_; rintro e w6 ⟨rfl, ⟨h6, k6⟩, k6'⟩; refine Hid.out ?_))
  have hw6 : w0.grownBy w6 none := Kb.on HK5.out.2 k6
  have hS6 := k6.row HS5.out hbl (by decide)
  have c4 := cell_of_row w6 _ 4 _ _ _ hS6
  have hit := HIT.out _ w6 h6 hw6 (by simp [tx])
  have HK6 := Lib.hid (And.intro (HK5.out.1.trans k6) hw6)
  clear h6 k6 k6' hw6 hS6 HS5 HK5 c3 hlet hlo HIT
  refine Lib.hid ?_
  go_wp2_with (go_at_call 43; refine hit.mono ?_; rintro e w7 ⟨rfl, h7, k7⟩; refine Hid.out ?_)
  have hw7 : w0.grownBy w7 none := Kb.on HK6.out.2 k7
  have htel := lineN w0.heap.size b _ [⟨#[116, 101, 108]⟩] #[.string ⟨#[116, 101, 108]⟩] 1 w7 w7 h7 hw7.size (World.grownBy.refl _ _) rfl rfl (by simp) (by simp [tx]; omega)
  have HK7 := Lib.hid (HK6.out.1.trans k7)
  clear h7 k7 hw7 c4 hit HK6
  refine Lib.hid ?_
  go_wp2_with (go_at_call 40; refine htel.mono ?_; rintro e w8 ⟨rfl, ⟨h8, k8⟩, k8'⟩; refine Hid.out ?_)
  have HF := Lib.hid (And.intro h8 (HK7.out.trans k8))
  clear h8 k8 k8' htel HK7
  refine Lib.hid ?_
  go_wp2
  go_end0
  exact ⟨rfl, by simpa [tx, nodeT] using HF.out.1, HF.out.2⟩

end Go.Proofs.YtachmiajldeakaaGreatDoor
