/- metronomeref22.Inputs. -/
import Derived.Test.YtdhgopcfjomjaaaDoorCpA
namespace Go.Proofs.YtdhgopcfjomjaaaDoor
open Go.RowKit Go.Maps Go.WideMaps
open Cn (I64)

theorem info_i : (Tryd.prog.info? 3).map (fun i => (i.zero, i.size, i.bytes)) = some (some (.int .i64 0), 1, 8) := by kernel_rfl
def InP (W : World) (B : Nat) (k : Nat) (v : Value) (wr : World) : Prop := ∃ xs : List Int, xs.length = k ∧ wr.ownsRow B 3 1 v xs.length (ints xs) ∧ W.grownBy wr none
set_option maxHeartbeats 2000000 in
set_option maxRecDepth 100000 in
theorem rinputs_any (w : World) (a : Option Addr) (n : List Cn.Gt) (cap : Nat) (h : GatesAt w a n) (hm : n.length ≤ 5000) :
    Calls Tryd.prog 34 #[.agg #[.slice a n.length cap]] w fun e w' => (∃ b c, e = .returned (.slice b (Cn.cnt n) c)) ∧ w.grownBy w' none := by
  obtain ⟨N, hN⟩ : ∃ N, N = n.length := ⟨_, rfl⟩
  obtain ⟨W, hW⟩ : ∃ W, W = w.alloc (.cells #[.slice a N cap] 35) := ⟨_, rfl⟩
  have hgW : w.grownBy W none := by rw [hW]; exact World.grownBy_alloc _ _ _
  have c0 : W.cell? ⟨w.heap.size, 0, none⟩ = some (.slice a N cap) := by rw [hW]; simp
  have HG := Lib.hid (And.intro (h.on hgW) hgW)
  rw [← hN] at hm ⊢
  have HN := Lib.hid (And.intro hN hm)
  have hm63 : N ≤ 9223372036854775807 := by omega
  obtain ⟨it, hit, hz, hsz, hby⟩ := info_parts info_i
  clear hN h hm hgW
  go_enter Tryd.func34, Tryd.ntmps34
  go_wp2
  rw [← hW]
  clear hW
  go_loopw [3, 4] (fun lv iv wr => ∃ t : Nat, t ≤ N ∧ iv = .int .i64 (t : Int) ∧ Hid (InP W W.heap.size (Cn.cnt (n.take t)) lv wr)) (fun _ iv _ => N - (intOf iv).toNat)
  case atStart => exact ⟨0, Nat.zero_le _, rfl, Lib.hid ⟨[], rfl, World.ownsRow_nil _ _ _ _, World.grownBy.refl _ _⟩⟩
  case round =>
    obtain ⟨t, ht, rfl, HT⟩ := hrel
    obtain ⟨xs, hxl, hown, hgr⟩ := HT.out
    have d0 := hgr.cell c0 (by simp)
    have l0 : w.heap.size < wr.heap.size := lt_of_some d0
    by_cases hlt : t < N
    · obtain ⟨g, hg⟩ : ∃ g, n[t]? = some g := ⟨_, List.getElem?_eq_getElem (by rw [← HN.out.1]; exact hlt)⟩
      obtain ⟨b, o, rfl, h1, _, _, _⟩ := (HG.out.1.on hgr) t g hg
      have hst := Cn.cnt_step hg
      have hcl := Cn.cnt_take n t
      have hcn := Cn.cnt_le n
      by_cases h2 : g.op = 2
      · have e2 : (g.op == 2) = true := by simp [h2]
        rw [if_pos h2] at hst
        have hnr := heap_alloc_new wr (.cells #[.int .i64 (t : Int)] 3)
        have ho2 := hown.alloc (.cells #[.int .i64 (t : Int)] 3)
        have hnews : ∀ j u, [Value.int .i64 (t : Int)][j]? = some u → (wr.alloc (.cells #[.int .i64 (t : Int)] 3)).cell? ((⟨wr.heap.size, 0, none⟩ : Addr).add j) = some u := fun j u hu => by
          rw [addr_at, Nat.zero_add, row_cell hnr]; exact hu
        have b63 : xs.length + 1 ≤ maxLen := by have := HN.out; unfold maxLen; omega
        have bby : (xs.length + 1) * 8 ≤ 140737488355328 := by have := HN.out; omega
        have hbase : W.heap.size ≤ (wr.alloc (.cells #[.int .i64 (t : Int)] 3)).heap.size := by have := hgr.size; rw [World.size_alloc]; omega
        have hgs := hgr.trans (World.grownBy_alloc wr (.cells #[.int .i64 (t : Int)] 3) none)
        have HB := Lib.hid (And.intro ho2 (And.intro hnews (And.intro b63 (And.intro bby (And.intro hbase (And.intro hgs (And.intro hxl hst)))))))
        have HOL := Lib.hid (fun k e => (hown.lt k e).1)
        clear hg hst hcl hcn h2 hnr ho2 hnews b63 bby hbase hgs hxl hown hgr HT
        go_wp2_with (at_builtin; refine wpList_append_own _ rfl _ _ 36 rfl W.heap.size 3 it _ 1 8 Tryd.underlying36 hit hz hsz hby rfl (by decide) _ xs.length (ints xs) rfl HB.out.1 ⟨wr.heap.size, 0, none⟩ 1 1 [.int .i64 (t : Int)] rfl rfl HB.out.2.1 (fun u hu => by rw [List.mem_singleton.1 hu]; rfl) HB.out.2.2.1 HB.out.2.2.2.1 HB.out.2.2.2.2.1 ?_; intro v' w4 ho4 hg4 _; have H4 := Lib.hid (And.intro ho4 (grown_ov HB.out.2.2.2.2.2.1 hg4 HOL.out)); clear ho4 hg4)
        refine ⟨⟨t + 1, by omega, by go_num, Lib.hid ⟨xs ++ [(t : Int)], ?_, ?_, H4.out.2⟩⟩, by simp [intOf]; omega⟩
        · rw [HB.out.2.2.2.2.2.2.2, List.length_append, HB.out.2.2.2.2.2.2.1]; rfl
        · rw [List.length_append, ints, List.map_append]; exact H4.out.1
      · have e2 : (g.op == 2) = false := by simp [h2]
        rw [if_neg h2, Nat.add_zero] at hst
        have HX := Lib.hid (And.intro hst (And.intro hxl (And.intro hown hgr)))
        clear hg hst hcl hcn h2 hxl hown hgr HT
        go_wp2
        exact ⟨⟨t + 1, by omega, by go_num, Lib.hid ⟨xs, by rw [HX.out.1]; exact HX.out.2.1, HX.out.2.2.1, HX.out.2.2.2⟩⟩, by simp [intOf]; omega⟩
    · obtain rfl : t = N := by omega
      obtain ⟨b, c, hv⟩ := owns_form hown
      subst hv
      rw [HN.out.1, List.take_length] at hxl
      have HX := Lib.hid (HG.out.2.trans hgr)
      rw [hxl]
      clear hown hgr HT hxl
      go_wp2
      go_ret
      exact ⟨⟨b, c, rfl⟩, HX.out⟩
end Go.Proofs.YtdhgopcfjomjaaaDoor
