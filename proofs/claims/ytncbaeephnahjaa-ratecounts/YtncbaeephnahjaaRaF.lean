/- rate's queue: Push and Pop. -/
import Derived.Test.YtncbaeephnahjaaRaE
import Derived.Deep.RegionLaw
namespace Go.Proofs.Ytncbaeephnahjaa
open Go.RowKit Go.Maps Go.WideMaps Go.Shelf
open Rat (at_ swp)

theorem infoP {t : TypeId} {sz by_ : Nat} {z : Value} (h : (Try.prog.info? t).map (fun i => (i.size, i.bytes, i.zero)) = some (sz, by_, some z)) : ∃ i, Try.prog.info? t = some i ∧ i.zero = some z ∧ i.size = sz ∧ i.bytes = by_ := by
  cases hi : Try.prog.info? t with
  | none => rw [hi] at h; cases h
  | some i =>
    rw [hi] at h
    simp only [Option.map_some, Option.some.injEq, Prod.mk.injEq] at h
    exact ⟨i, rfl, h.2.2, h.1, h.2.1⟩
theorem info_beat : (Try.prog.info? 62).map (fun i => (i.size, i.bytes, i.zero)) = some (2, 16, some (.agg #[.int .i64 0, .int .i64 0])) := by kernel_rfl

theorem ta_beat (x : Value) (w : World) : (Instr.typeAssert (.iface 62 x) 20 62 false).run Try.prog w = .ok x w := by kernel_rfl

/-- append onto what one owns, as one step of a region that draws -/
theorem step_append_own {P : Program} {ops : Array Oper} {o : Oper} {a : Act} {w : World} {K : Act → World → Prop} {Q : Exit → Act → World → Prop} {E : Prop}
    (hgd : o.guard = none) (s x : Operand) (t : TypeId) (ho : o.op = .call { callee := .builtin .append, args := #[s, x], argTypes := #[t, t] })
    (base : Nat) (e : TypeId) (i : TypeInfo) (z : Value) (size bytes : Nat) (ht : P.underlying t = some (.slice e)) (hi : P.info? e = some i) (hz : i.zero = some z)
    (hsize : i.size = size) (hby : i.bytes = bytes) (hzs : z.cells.size = size) (hsz : 0 < size)
    (v : Value) (n : Nat) (xs : List Value) (hs : a.eval s = v) (hown : w.ownsRow base e size v n xs)
    (ad : Addr) (m c : Nat) (news : List Value) (hx : a.eval x = .slice (some ad) m c) (hl : news.length = m * size) (hnews : ∀ j u, news[j]? = some u → w.cell? (ad.add j) = some u) (h1 : ∀ u ∈ news, u.oneCell' = true)
    (h63 : n + m ≤ maxLen) (hbytes : (n + m) * bytes ≤ 140737488355328) (hbase : base ≤ w.heap.size)
    (h : ∀ v' w', w'.ownsRow base e size v' (n + m) (xs ++ news) → w.grownBy w' v.ownBlock → K (a.put o.dst v') w') : if Region.wanted o (yielded ops a.tmps) = true then Oper.wp P o a w K Q else E := by
  have hw : Region.wanted o (yielded ops a.tmps) = true := by simp [Region.wanted, hgd]
  rw [if_pos hw]
  exact wp_append_own w s x t ho base e i z size bytes ht hi hz hsize hby hzs hsz v n xs hs hown ad m c news hx hl hnews h1 h63 hbytes hbase (fun v' w' a1 a2 _ => h v' w' a1 a2)

theorem ownForm {w : World} {B n : Nat} {e : TypeId} {sz : Nat} {v : Value} {xs : List Value} (h : w.ownsRow B e sz v n xs) : ∃ a c, v = .slice a n c := by
  rcases h.2 with ⟨rfl, e⟩ | ⟨g, cap, cur, rfl, _⟩
  · rw [e]; exact ⟨_, _, rfl⟩
  · exact ⟨_, _, rfl⟩
theorem row_cells {W : World} {g : Nat} {cs : List Value} {t : TypeId} (h : W.heap[g]? = some (.cells cs.toArray t (0, 0))) : ∀ j u, cs[j]? = some u → W.cell? ((⟨g, 0, none⟩ : Addr).add j) = some u := by
  intro j u hu
  have hadd : (⟨g, 0, none⟩ : Addr).add j = ⟨g, j, none⟩ := by unfold Addr.add; split <;> simp_all
  rw [hadd, cell_of_row W g j _ _ _ h]
  simpa using hu

theorem push_fin {w W w' : World} {b : Nat} {v u : Value} {q : List Nat} {x : Nat} {cs : List Value} (h : Qv w b v q) (hW : w.grownBy W none) (h1 : w'.ownsRow (b + 1) 62 2 u (q.length + 1) (bc q ++ cs)) (hcs : bc [x] = cs) (h2 : W.grownBy w' v.ownBlock) (hb' : w'.heap[b]? = some (.cells #[v] 58 (0, 0))) :
    (∃ v', Qv (w'.setCell ⟨b, 0, none⟩ u) b v' (q ++ [x])) ∧ Below b w (w'.setCell ⟨b, 0, none⟩ u) := by
  refine ⟨⟨u, heap_setCell_same w' b 0 _ _ _ hb', ?_⟩, ?_⟩
  · have := ownsRow_setCell_below h1 (a := ⟨b, 0, none⟩) (Nat.lt_succ_self b) u
    rw [bc_app, hcs, List.length_append]
    exact this
  · have hb := h.lt
    refine Below.setCell ?_ (Nat.le_refl b) u
    refine (below_of hW (Nat.le_of_lt hb) (by simp)).trans (below_of h2 (Nat.le_trans (Nat.le_of_lt hb) hW.size) (fun k e => ?_))
    have := (h.2.lt k e).1
    omega
theorem gaD (w : World) (o : Obj) : w.grownBy (w.alloc o).drew none := ⟨rfl, rfl, rfl, (by show w.heap.size ≤ (w.alloc o).heap.size; simp), fun k hk _ => heap_alloc_old w o hk⟩
theorem gDa (w : World) (o : Obj) : w.grownBy (w.drew.alloc o) none := ⟨rfl, rfl, rfl, (by show w.heap.size ≤ (w.alloc o).heap.size; simp), fun k hk _ => heap_alloc_old w o hk⟩

set_option maxHeartbeats 1600000 in
set_option maxRecDepth 20000 in
theorem qpush_any {w : World} {b : Nat} {v : Value} {q : List Nat} (h : Qv w b v q) (hn : q.length < 1000) (x : Nat) :
    Calls Try.prog 51 #[.pointer (some ⟨b, 0, none⟩), .iface 62 (.agg #[.int .i64 ((x / 64 : Nat) : Int), .int .i64 ((x % 64 : Nat) : Int)])] w fun e w' => e = .returned (.tuple #[]) ∧ (∃ v', Qv w' b v' (q ++ [x])) ∧ Below b w w' := by
  obtain ⟨it, hit, hz, hsz, hby⟩ := infoP info_beat
  have c0 := cell_of_row w b 0 _ _ _ h.1
  have hta := ta_beat
  have HH := Lib.hid h
  have hbl := h.lt
  have HX := Lib.hid (show bc [x] = [.int .i64 ((x / 64 : Nat) : Int), .int .i64 ((x % 64 : Nat) : Int)] from rfl)
  clear h
  generalize ((x / 64 : Nat) : Int) = t at *
  generalize ((x % 64 : Nat) : Int) = p at *
  have HIT := Lib.hid (And.intro hit (And.intro hz (And.intro hsz hby)))
  clear hit hz hsz hby
  go_enter Try.func51, Try.ntmps51
  go_wp2
  have m1 : q.length + 1 ≤ maxLen := by unfold maxLen; omega
  have m2 : (q.length + 1) * 16 ≤ 140737488355328 := by omega
  have M := Lib.hid (And.intro m1 m2)
  have HNE : Hid (some b ≠ v.ownBlock) := Lib.hid (fun e => Nat.not_succ_le_self _ (HH.out.2.lt b e.symm).1)
  clear m1 m2
  go_region_law (refine step_append_own rfl (.tmp 7) (.tmp 10) 58 rfl (b + 1) 62 it _ 2 16 Try.underlying58 HIT.out.1 HIT.out.2.1 HIT.out.2.2.1 HIT.out.2.2.2 rfl (by decide) v q.length (bc q) (by simp [Act.eval]) (HH.out.2.alloc _) ⟨w.heap.size, 0, none⟩ 1 1 [.int .i64 t, .int .i64 p] (by simp [Act.eval]) rfl (row_cells (heap_alloc_new w _)) (by simp [Value.oneCell']) M.out.1 M.out.2 (by first | (simp; done) | (simp; omega)) ?_; intro v' w' h1 h2; obtain ⟨a9, k9, rfl⟩ := ownForm h1; have hb' : w'.heap[b]? = some (.cells #[v] 58 (0, 0)) := (h2.block b (by first | (simp; done) | (simp; omega)) HNE.out).trans ((heap_alloc_old w _ hbl).trans HH.out.1); have c9 := cell_of_row w' b 0 _ _ _ hb'; have f9 := frozen_of_row w' b 0 _ _ hb'; have HN := Lib.hid (And.intro h1 (And.intro h2 hb')); clear h1 h2 hb')
  all_goals go_wp2
  all_goals go_end0
  all_goals exact ⟨rfl, push_fin HH.out (by first | exact World.grownBy_alloc _ _ _ | exact gaD _ _ | exact gDa _ _) HN.out.1 HX.out HN.out.2.1 HN.out.2.2⟩

set_option maxHeartbeats 1600000 in
set_option maxRecDepth 20000 in
theorem qpop_any {w : World} {b : Nat} {v : Value} {q : List Nat} {x : Nat} (h : Qv w b v (q ++ [x])) (hn : q.length < 1000) :
    Calls Try.prog 50 #[.pointer (some ⟨b, 0, none⟩)] w fun e w' => e = .returned (.iface 62 (.agg #[.int .i64 ((x / 64 : Nat) : Int), .int .i64 ((x % 64 : Nat) : Int)])) ∧ (∃ v', Qv w' b v' q) ∧ Below b w w' := by
  obtain ⟨g, cap, cur, rfl, hb, hg, h1, h2, h3, ht⟩ := h.own (by simp)
  have hx := cur_at ht (i := q.length) (by simp)
  rw [show at_ (q ++ [x]) q.length = x by simp [at_]] at hx
  have d0 := (cell_of_row w g (q.length * 2) _ _ _ hg).trans hx.1
  have d1 := (cell_of_row w g (q.length * 2 + 1) _ _ _ hg).trans hx.2
  have c0 := cell_of_row w b 0 _ _ _ h.1
  have f0 := frozen_of_row w b 0 _ _ h.1
  have hbl := h.lt
  rw [List.length_append, List.length_singleton] at *
  have HH := Lib.hid (And.intro h.1 (And.intro hg (And.intro ht h3)))
  clear h hg ht hx h3
  generalize ((x / 64 : Nat) : Int) = t at *
  generalize ((x % 64 : Nat) : Int) = p at *
  go_enter Try.func50, Try.ntmps50
  go_wp2
  go_ret
  obtain ⟨hb0, hg, ht, h3⟩ := HH.out
  have hs := heap_setCell_same w b 0 _ _ (.slice (some ⟨g, 0, none⟩) q.length cap) hb0
  refine ⟨rfl, ⟨.slice (some ⟨g, 0, none⟩) q.length cap, (heap_alloc_old _ _ (by simpa using hbl)).trans hs, by rw [bc_len], .inr ⟨g, cap, cur, rfl, hb, (heap_alloc_old _ _ (by simpa using gl hg)).trans ((heap_setCell_other w ⟨b, 0, none⟩ g _ (by simp; omega)).trans hg), by omega, h2, h3, ?_⟩⟩, ?_⟩
  · have e := congrArg (List.take (q.length * 2)) ht
    rw [List.take_take, show min (q.length * 2) ((q.length + 1) * 2) = q.length * 2 by omega, bc_app, List.take_left' (bc_len q)] at e
    exact e
  · exact ((Below.refl b w).setCell (Nat.le_refl b) _).alloc (by simp; omega) _
end Go.Proofs.Ytncbaeephnahjaa
