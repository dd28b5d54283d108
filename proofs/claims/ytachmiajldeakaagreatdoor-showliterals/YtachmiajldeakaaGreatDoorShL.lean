/- show: one declaration; a list of one text joined. -/
import Derived.Test.YtachmiajldeakaaGreatDoorShK
namespace Go.Proofs.YtachmiajldeakaaGreatDoor
open Go.RowKit Go.Maps Go.WideMaps

set_option maxHeartbeats 1000000 in
theorem typeText_i8 (w : World) : Calls Tryz.prog 129 #[.agg #[.int .i64 2, .int .i64 0]] w fun e w' => e = .returned (.string ⟨#[105, 56]⟩) ∧ w.grownBy w' none := by
  have hk := fun wx => kindText_any 2 (by decide) (by decide) wx
  rw [show Lex.kindS 2 = [105, 56] from rfl] at hk
  go_enter Tryz.func129, Tryz.ntmps129
  go_wp2_with (go_at_call 91; refine (hk _).mono ?_; rintro e w' ⟨rfl, hg⟩)
  go_ret
  exact ⟨rfl, (World.grownBy_alloc w _ none).trans hg⟩

set_option maxHeartbeats 4000000 in
set_option maxRecDepth 100000 in
theorem decl_i8 (c : UInt8) (ka : Option Addr) (kn kc : Nat) (at_ : Int) (w : World) : Calls Tryz.prog 84 #[.agg #[.string ⟨#[c]⟩, .int .i64 2, .int .i64 0, .slice ka kn kc, .int .i64 at_]] w fun e w' => e = .returned (.string ⟨#[c, 58, 32, 105, 56]⟩) ∧ w.grownBy w' none := by
  go_enter Tryz.func84, Tryz.ntmps84
  go_wp2
  obtain ⟨W, hW⟩ : ∃ W, W = (w.alloc (.cells #[.string ⟨#[c]⟩, .int .i64 2, .int .i64 0, .slice ka kn kc, .int .i64 at_] 139)).drew := ⟨_, rfl⟩
  have hg0 : w.grownBy W none := by
    have := World.grownBy_alloc w (.cells #[.string ⟨#[c]⟩, .int .i64 2, .int .i64 0, .slice ka kn kc, .int .i64 at_] 139) none
    rw [hW]
    exact ⟨this.os, this.tape, this.output, this.size, this.block⟩
  have hS0 : W.heap[w.heap.size]? = some (.cells #[.string ⟨#[c]⟩, .int .i64 2, .int .i64 0, .slice ka kn kc, .int .i64 at_] 139 (0, 0)) := by rw [hW]; exact heap_alloc_new w _
  have HG := Lib.hid hg0
  refine wp_region_L (S := fun V => V.heap[w.heap.size]? = some (.cells #[.string ⟨#[c]⟩, .int .i64 2, .int .i64 0, .slice ka kn kc, .int .i64 at_] 139 (0, 0))) (Z := []) (by kernel_rfl) ?_
  rw [← hW]
  clear hW hg0
  refine t1 0 3 (.pointer (some ⟨w.heap.size, 0, none⟩)) hS0 ?_
  (try simp only [Act.put, sA, sB, sC])
  refine t2 1 4 (.string ⟨#[c]⟩) (fun w' hw' => ?_) hS0 ?_
  · have hc0 := cell_of_row w' _ 0 _ _ _ hw'; clear hw'; go_simp
  (try simp only [Act.put, sA, sB, sC])
  refine t1 2 5 (.string ⟨#[c, 58, 32]⟩) hS0 ?_
  (try simp only [Act.put, sA, sB, sC])
  refine t1 3 6 (.pointer (some ⟨w.heap.size, 1, none⟩)) hS0 ?_
  (try simp only [Act.put, sA, sB, sC])
  refine t2 4 7 (.agg #[.int .i64 2, .int .i64 0]) (fun w' hw' => ?_) hS0 ?_
  · have hc0 := cell_of_row w' _ 1 _ _ _ hw'; have hc1 := cell_of_row w' _ 2 _ _ _ hw'; clear hw'; go_simp
  (try simp only [Act.put, sA, sB, sC])
  refine wpL_call (i := 5) (d := 8) (R := fun v w' => v = .string ⟨#[105, 56]⟩ ∧ W.grownBy w' none) (by kernel_rfl) rfl (by kernel_rfl) (by kernel_rfl) (by kernel_rfl) ((typeText_i8 W).mono fun e w' he => ⟨_, he.1, rfl, he.2⟩) (fun v w' hR => (hR.2.block _ (Array.getElem?_eq_some_iff.1 hS0).1 (by simp)).trans hS0) (fun v w2 hR => ?_)
  obtain ⟨rfl, hg2⟩ := hR
  have hS2 : w2.heap[w.heap.size]? = some (.cells #[.string ⟨#[c]⟩, .int .i64 2, .int .i64 0, .slice ka kn kc, .int .i64 at_] 139 (0, 0)) := (hg2.block _ (Array.getElem?_eq_some_iff.1 hS0).1 (by simp)).trans hS0
  (try simp only [Act.put, sA, sB, sC])
  refine t1 6 9 (.string ⟨#[c, 58, 32, 105, 56]⟩) hS2 ?_
  (try simp only [Act.put, sA, sB, sC])
  refine t1 7 2 (.string ⟨#[c, 58, 32, 105, 56]⟩) hS2 ?_
  (try simp only [Act.put, sA, sB, sC])
  refine wpL_done (by kernel_rfl) ?_ _
  have HF := Lib.hid (HG.out.trans hg2)
  clear hg2 hS2 hS0 HG
  go_wp2
  go_ret
  exact ⟨rfl, HF.out⟩

set_option maxHeartbeats 1000000 in
set_option maxRecDepth 100000 in
theorem join_one (g cap : Nat) (s sep : ByteArray) (w : World) (hc : w.cell? ⟨g, 0, none⟩ = some (.string s)) : Calls Tryz.prog 85 #[.slice (some ⟨g, 0, none⟩) 1 cap, .string sep] w fun e w' => e = .returned (.string s) ∧ w' = w := by
  go_enter Tryz.func85, Tryz.ntmps85
  go_wp2
  go_ret
  exact ⟨rfl, rfl⟩

theorem info_s : (Tryz.prog.info? 9).map (fun i => (i.zero, i.size, i.bytes)) = some (some (.string ⟨#[]⟩), 1, 16) := by kernel_rfl

set_option maxHeartbeats 2000000 in
theorem decls_one (c : UInt8) (g cap : Nat) (ka : Option Addr) (kn kc : Nat) (at_ : Int) (w : World) (c0 : w.cell? ⟨g, 0, none⟩ = some (.string ⟨#[c]⟩)) (c1 : w.cell? ⟨g, 1, none⟩ = some (.int .i64 2)) (c2 : w.cell? ⟨g, 2, none⟩ = some (.int .i64 0)) (c3 : w.cell? ⟨g, 3, none⟩ = some (.slice ka kn kc)) (c4 : w.cell? ⟨g, 4, none⟩ = some (.int .i64 at_)) :
    Calls Tryz.prog 41 #[.slice (some ⟨g, 0, none⟩) 1 cap] w fun e w' => e = .returned (.string ⟨#[c, 58, 32, 105, 56]⟩) ∧ w.grownBy w' none := by
  obtain ⟨i0, hi, hz0, hz1, hz2⟩ := info_parts info_s
  have hd := fun wx => decl_i8 c ka kn kc at_ wx
  go_enter Tryz.func41, Tryz.ntmps41
  go_wp2
  go_loopw [3, 8] (fun tv iv wr => (iv = .int .i64 0 ∧ tv = .slice none 0 0 ∧ wr = w) ∨ (iv = .int .i64 1 ∧ Hid (w.grownBy wr none) ∧ ∃ g2 cap2, tv = .slice (some ⟨g2, 0, none⟩) 1 cap2 ∧ wr.cell? ⟨g2, 0, none⟩ = some (.string ⟨#[c, 58, 32, 105, 56]⟩))) (fun _ i _ => 1 - (intOf i).toNat)
  case atStart => exact .inl ⟨rfl, rfl, rfl⟩
  case round =>
    rcases hrel with ⟨rfl, rfl, hw⟩ | ⟨rfl, H, g2, cap2, rfl, hc⟩
    · obtain rfl := hw.symm
      go_wp2_with (go_at_call 84; refine (hd _).mono ?_; rintro e w2 ⟨rfl, hg2⟩; refine Hid.out ?_)
      have HG := Lib.hid ((World.grownBy_alloc w _ none).trans hg2)
      clear hg2 c0 c1 c2 c3 c4
      refine Lib.hid ?_
      go_wp2_with (at_builtin; refine wpList_append_own _ rfl _ _ 38 rfl w2.heap.size 9 i0 _ 1 16 Tryz.underlying38 hi hz0 hz1 hz2 rfl (by decide) _ 0 [] rfl (World.ownsRow_nil _ _ _ _) ⟨w2.heap.size, 0, none⟩ 1 1 [.string ⟨#[c, 58, 32, 105, 56]⟩] rfl rfl ?c1 ?c2 ?c3 ?c4 ?c5 ?_)
      case c1 =>
        intro j u hj
        match j, hj with
        | 0, hj =>
          cases hj
          show (w2.alloc (.cells #[.string ⟨#[c, 58, 32, 105, 56]⟩] 9)).cell? ⟨w2.heap.size, 0, none⟩ = _
          simp
      case c2 => intro u hu; obtain rfl := List.mem_singleton.1 hu; rfl
      case c3 => decide
      case c4 => decide
      case c5 => simp
      intro v' w3 hown hgr _
      obtain ⟨g2, cap2, cur, rfl, hb2, hh2, -, -, -, ht2⟩ : ∃ g2 cap2 cur, v' = .slice (some ⟨g2, 0, none⟩) 1 cap2 ∧ w2.heap.size ≤ g2 ∧ w3.heap[g2]? = some (.cells cur 9 (0, 0)) ∧ 1 ≤ cap2 ∧ cap2 ≤ maxLen ∧ cur.size = cap2 * 1 ∧ cur.toList.take (1 * 1) = [.string ⟨#[c, 58, 32, 105, 56]⟩] := by
        rcases hown.2 with ⟨_, h0⟩ | ⟨g, cap, cur, hv, r⟩
        · omega
        · exact ⟨g, cap, cur, hv, r⟩
      have hc : w3.cell? ⟨g2, 0, none⟩ = some (.string ⟨#[c, 58, 32, 105, 56]⟩) := by
        rw [Lib.cell_of_heap hh2]
        cases hcu : cur.toList with
        | nil => rw [hcu] at ht2; cases ht2
        | cons u r =>
          rw [hcu] at ht2
          have e0 : u = .string ⟨#[c, 58, 32, 105, 56]⟩ := by simpa using ht2
          rw [← Array.getElem?_toList, hcu, e0]
          rfl
      have HF := Lib.hid (And.intro (HG.out.trans ((World.grownBy_alloc w2 _ none).trans hgr)) hc)
      clear hown hgr hh2 ht2 hc HG
      go_wp2
      exact ⟨.inr ⟨rfl, Lib.hid HF.out.1, g2, cap2, rfl, HF.out.2⟩, by simp [intOf]⟩
    · have hj := fun sep => join_one g2 cap2 ⟨#[c, 58, 32, 105, 56]⟩ sep wr hc
      go_wp2_with (go_at_call 85; refine (hj _).mono ?_; rintro e w' ⟨rfl, hw⟩; obtain rfl := hw.symm)
      go_ret
      exact ⟨rfl, H.out⟩

end Go.Proofs.YtachmiajldeakaaGreatDoor
