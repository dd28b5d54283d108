/- Texts joined: CuE, CuF. -/
import Derived.Test.YtfbhflpjhbemlaaGreatJnH
import Derived.Test.YtfbhflpjhbemlaaGreatJnC
/- Stage 19: metronomeref19.step of an operation on one value, on two (written by mkcud.py). -/
namespace Go.Proofs.YtfbhflpjhbemlaaGreat
open Go.RowKit Go.Maps Go.WideMaps

theorem StepP.mayb {w W : World} {c : Cd.Code} {x : Cd.Ins} {s m : List Int} {a : Option Addr} {cap : Nat} {ok : Bool} (hs : Cd.step c x s = if ok then some m else none) (hg : w.grownBy W none) (hn : NumsAt w a m.reverse) (hc : m.length ≤ cap) : StepP w c x s (.returned (.tuple #[.slice a m.length cap, .bool ok])) W := by
  cases ok with
  | true => exact StepP.keep (by simpa using hs) hg hn hc
  | false => exact ⟨hg, .inr ⟨by simpa using hs, _, rfl⟩⟩
theorem belowG {w W V : World} (h : w.grownBy W none) (hb : Below W.heap.size W V) : w.grownBy V none := h.trans ⟨hb.os, hb.tape, hb.output, hb.size, fun k hk _ => hb.block k hk⟩
theorem wpList_app_nums {ops : Array Oper} {rest : List Oper} {o : Oper} {a : Act} {Q : Exit → Act → World → Prop} (hgd : o.guard = none) (w : World) (x : Operand)
    (ho : o.op = .call { callee := .builtin .append, args := #[.const (.slice none 0 0), x], argTypes := #[24, 24] }) (B : Nat) (hB : B ≤ w.heap.size)
    (la : Option Addr) (lc : Nat) (l : List Int) (hx : a.eval x = .slice la l.length lc) (hl : NumsAt w la l) (hn : l.length ≤ 1000000)
    (h : ∀ v' w', w'.ownsRow B 3 1 v' l.length (l.map (Value.int .i64)) → w.grownBy w' none → wpList Tryz.prog ops Q rest (a.put o.dst v') w') : wpList Tryz.prog ops Q (o :: rest) a w :=
  wpList_plain hgd fun _ hK => wp_app_nums w x ho B hB la lc l hx hl hn fun v' w' h2 h3 => hK _ _ (h v' w' h2 h3)
theorem wpList_app_one {ops : Array Oper} {rest : List Oper} {o : Oper} {a : Act} {Q : Exit → Act → World → Prop} (hgd : o.guard = none) (w : World) (s x : Operand)
    (ho : o.op = .call { callee := .builtin .append, args := #[s, x], argTypes := #[24, 24] }) (B : Nat) (hB : B ≤ w.heap.size)
    (v : Value) (l : List Int) (hs : a.eval s = v) (hown : w.ownsRow B 3 1 v l.length (l.map (Value.int .i64))) (A : Nat) (n : Int) (hx : a.eval x = .slice (some ⟨A, 0, none⟩) 1 1) (hA : w.cell? ⟨A, 0, none⟩ = some (.int .i64 n)) (hn : l.length ≤ 1000000)
    (h : ∀ v' w', w'.ownsRow B 3 1 v' (l ++ [n]).length ((l ++ [n]).map (Value.int .i64)) → w.grownBy w' v.ownBlock → wpList Tryz.prog ops Q rest (a.put o.dst v') w') : wpList Tryz.prog ops Q (o :: rest) a w :=
  wpList_plain hgd fun _ hK => wp_app_one w s x ho B hB v l hs hown A n hx hA hn fun v' w' h2 h3 => hK _ _ (h v' w' h2 h3)
theorem step4 (c : Cd.Code) (n k : Int) (s : List Int) : Cd.step c ⟨4, n, k⟩ s = (match s with | [] => none | a :: r => if a = k ∧ Bv.unB n k 0 = true then some (a :: r) else none) := rfl
theorem step5 (c : Cd.Code) (n k : Int) (s : List Int) : Cd.step c ⟨5, n, k⟩ s = (match s with | a :: b :: r => if a = k ∧ b = k ∧ Bv.binB n k 0 0 = true then some (Bv.toK n k :: r) else none | _ => none) := rfl

set_option maxHeartbeats 4000000 in
set_option maxRecDepth 100000 in
theorem rstep4 (w : World) (c : Cd.Code) (ka : Option Addr) (kc : Nat) (ia : Option Addr) (ic : Nat) (ba : Option Addr) (bc : Nat) (n k : Int) (s : List Int) (a : Option Addr) (cap : Nat) (hn : NumsAt w a s.reverse) (hl : s.length ≤ 1000) (hcap : s.length ≤ cap) : Calls Tryz.prog 42 #[.agg (codeV c ka kc ia ic ba bc), .agg #[.int .i64 4, .int .i64 n, .int .i64 k], .slice a s.length cap] w (StepP w c ⟨4, n, k⟩ s) := by
  cases s with
  | nil =>
    have HS : Hid (Cd.step c ⟨4, n, k⟩ [] = none) := Lib.hid rfl
    clear hn hcap hl
    unfold codeV
    generalize c.kinds.length = nk at *
    generalize c.init.length = ni
    generalize c.body.length = nb
    generalize hx1 : c.ins = x1 at *
    generalize hx2 : c.outs = x2 at *
    generalize hx3 : c.cells = x3 at *
    generalize hx4 : c.stack = x4 at *
    clear hx1 hx2 hx3 hx4
    simp only [List.length_nil] at *
    go_enter Tryz.func42, Tryz.ntmps42
    go_upto_region 15 with fail
    refine wp_as fun W hW => ?_
    have HG : Hid (w.grownBy W none) := Lib.hid (by rw [hW]; exact ga2 _ _ _)
    have kx0 : W.cell? ⟨w.heap.size + 1, 0, none⟩ = some (.int .i64 4) := by rw [hW]; exact box_at2 _ _ _ _ 0
    have kx1 : W.cell? ⟨w.heap.size + 1, 1, none⟩ = some (.int .i64 (n)) := by rw [hW]; exact box_at2 _ _ _ _ 1
    have kx2 : W.cell? ⟨w.heap.size + 1, 2, none⟩ = some (.int .i64 (k)) := by rw [hW]; exact box_at2 _ _ _ _ 2
    have ky0 : W.cell? ⟨w.heap.size, 0, none⟩ = some (.slice (ka) nk kc) := by rw [hW]; exact box_code2 _ _ _ _ 0
    have ky1 : W.cell? ⟨w.heap.size, 1, none⟩ = some (.int .i64 x1) := by rw [hW]; exact box_code2 _ _ _ _ 1
    clear hW
    refine wp_region_L (S := fun V => W.grownBy V none) (Z := []) (by kernel_rfl) ?_
    have hS : W.grownBy W.drew none := ⟨rfl, rfl, rfl, Nat.le_refl _, fun _ _ _ => rfl⟩
    (try simp only [Act.put, sA, sB, sC])
    refine t1 0 104 (.int .i64 (-1)) hS ?_
    (try simp only [Act.put, sA, sB, sC])
    refine t2 1 105 (.bool true) (fun w' hw' => ?_) hS ?_
    · clear hw' hS; go_simp; (try (intro e; omega))
    (try simp only [Act.put, sA, sB, sC])
    refine t1 2 106 (.bool true) hS ?_
    (try simp only [Act.put, sA, sB, sC])
    refine t3 3 107 hS ?_
    (try simp only [Act.put, sA, sB, sC])
    refine t3 4 108 hS ?_
    (try simp only [Act.put, sA, sB, sC])
    refine t3 5 109 hS ?_
    (try simp only [Act.put, sA, sB, sC])
    refine t3 6 110 hS ?_
    (try simp only [Act.put, sA, sB, sC])
    refine t3 7 111 hS ?_
    (try simp only [Act.put, sA, sB, sC])
    refine t3 8 112 hS ?_
    (try simp only [Act.put, sA, sB, sC])
    refine t3 9 113 hS ?_
    (try simp only [Act.put, sA, sB, sC])
    refine t1 10 114 (.bool true) hS ?_
    (try simp only [Act.put, sA, sB, sC])
    refine wpL_done (by kernel_rfl) ?_ _
    go_wp2
    go_ret2
    exact ⟨⟨HG.out.os, HG.out.tape, HG.out.output, HG.out.size, HG.out.block⟩, .inr ⟨HS.out, _, rfl⟩⟩
  | cons x s =>
    obtain ⟨sb, so, rfl, htop⟩ := hn.top
    have hm : s.length ≤ 1000 := by simp at hl; omega
    have hm2 : s.length < cap := by simp at hcap; omega
    obtain ⟨w1, w2⟩ := wr_top hm
    simp only [List.length_cons]
    by_cases hxk : x = k
    · subst hxk
      have HS : Hid (Cd.step c ⟨4, n, x⟩ (x :: s) = if Bv.unB n x 0 then some (x :: s) else none) := Lib.hid (by rw [step4]; cases h : Bv.unB n x 0 <;> simp)
      have hun := fun V => run_any n x 0 (by unfold Bv.I64; omega) V
      have ex : (x != x) = false := by simp
      have HN2 : Hid (∀ ok V, Cd.step c ⟨4, n, x⟩ (x :: s) = (if ok then some (x :: s) else none) → w.grownBy V none → StepP w c ⟨4, n, x⟩ (x :: s) (.returned (.tuple #[.slice (some ⟨sb, so, none⟩) (s.length + 1) cap, .bool ok])) V) := Lib.hid (fun ok V h hg => StepP.mayb h hg hn hcap)
      generalize Bv.unB n x 0 = ok at *
      generalize Bv.unN n x 0 = un at *
      clear hn hcap hl
      generalize s.length = m at *
      unfold codeV
      generalize c.kinds.length = nk at *
      generalize c.init.length = ni
      generalize c.body.length = nb
      generalize hx1 : c.ins = x1 at *
      generalize hx2 : c.outs = x2 at *
      generalize hx3 : c.cells = x3 at *
      generalize hx4 : c.stack = x4 at *
      clear hx1 hx2 hx3 hx4
      go_enter Tryz.func42, Tryz.ntmps42
      go_upto_region 15 with fail
      refine wp_as fun W hW => ?_
      have HG : Hid (w.grownBy W none) := Lib.hid (by rw [hW]; exact ga2 _ _ _)
      have kx0 : W.cell? ⟨w.heap.size + 1, 0, none⟩ = some (.int .i64 4) := by rw [hW]; exact box_at2 _ _ _ _ 0
      have kx1 : W.cell? ⟨w.heap.size + 1, 1, none⟩ = some (.int .i64 (n)) := by rw [hW]; exact box_at2 _ _ _ _ 1
      have kx2 : W.cell? ⟨w.heap.size + 1, 2, none⟩ = some (.int .i64 (x)) := by rw [hW]; exact box_at2 _ _ _ _ 2
      have ky0 : W.cell? ⟨w.heap.size, 0, none⟩ = some (.slice (ka) nk kc) := by rw [hW]; exact box_code2 _ _ _ _ 0
      have ky1 : W.cell? ⟨w.heap.size, 1, none⟩ = some (.int .i64 x1) := by rw [hW]; exact box_code2 _ _ _ _ 1
      clear hW
      have kt := HG.out.cell htop (by simp)
      clear htop
      refine wp_region_L (S := fun V => W.grownBy V none) (Z := []) (by kernel_rfl) ?_
      have hS : W.grownBy W.drew none := ⟨rfl, rfl, rfl, Nat.le_refl _, fun _ _ _ => rfl⟩
      (try simp only [Act.put, sA, sB, sC])
      refine t1 0 104 (.int .i64 (m : Int)) hS ?_
      (try simp only [Act.put, sA, sB, sC])
      refine t2 1 105 (.bool false) (fun w' hw' => ?_) hS ?_
      · clear hw' hS; go_simp; (try (intro e; omega))
      (try simp only [Act.put, sA, sB, sC])
      refine t1 2 106 (.bool false) hS ?_
      (try simp only [Act.put, sA, sB, sC])
      refine t1 3 107 (.slice (some ⟨sb, so, none⟩) (m + 1) cap) hS ?_
      (try simp only [Act.put, sA, sB, sC])
      refine t1 4 108 (.int .i64 (m : Int)) hS ?_
      (try simp only [Act.put, sA, sB, sC])
      refine t2 5 109 (.pointer (some ⟨sb, so + m, none⟩)) (fun w' hw' => ?_) hS ?_
      · clear hw' hS; go_simp; (try (intro e; omega))
      (try simp only [Act.put, sA, sB, sC])
      refine t2 6 110 (.int .i64 x) (fun w' hw' => ?_) hS ?_
      · have z := hw'.cell kt (by simp); clear hw' hS; go_simp
      (try simp only [Act.put, sA, sB, sC])
      refine t1 7 111 (.pointer (some ⟨w.heap.size + 1, 2, none⟩)) hS ?_
      (try simp only [Act.put, sA, sB, sC])
      refine t2 8 112 (.int .i64 (x)) (fun w' hw' => ?_) hS ?_
      · have z := hw'.cell kx2 (by simp); clear hw' hS; go_simp
      (try simp only [Act.put, sA, sB, sC])
      refine t2 9 113 (.bool false) (fun w' hw' => ?_) hS ?_
      · clear hw' hS; go_simp; (try (intro e; omega))
      (try simp only [Act.put, sA, sB, sC])
      refine t1 10 114 (.bool false) hS ?_
      (try simp only [Act.put, sA, sB, sC])
      refine wpL_done (by kernel_rfl) ?_ _
      have HG2 := Lib.hid (drewG HG.out)
      clear hS
      go_wp2_with (go_at_call 57; refine (hun _).mono ?_; clear hun; rintro e V ⟨rfl, hb⟩; have HB := Lib.hid (belowG HG2.out hb); clear hb)
      go_ret2
      exact HN2.out ok _ HS.out HB.out
    · have HS : Hid (Cd.step c ⟨4, n, k⟩ (x :: s) = none) := Lib.hid (by rw [step4]; exact if_neg (fun h => hxk h.1))
      have ex : (x != k) = true := by simp [hxk]
      clear hxk hn hcap hl
      generalize s.length = m at *
      unfold codeV
      generalize c.kinds.length = nk at *
      generalize c.init.length = ni
      generalize c.body.length = nb
      generalize hx1 : c.ins = x1 at *
      generalize hx2 : c.outs = x2 at *
      generalize hx3 : c.cells = x3 at *
      generalize hx4 : c.stack = x4 at *
      clear hx1 hx2 hx3 hx4
      go_enter Tryz.func42, Tryz.ntmps42
      go_upto_region 15 with fail
      refine wp_as fun W hW => ?_
      have HG : Hid (w.grownBy W none) := Lib.hid (by rw [hW]; exact ga2 _ _ _)
      have kx0 : W.cell? ⟨w.heap.size + 1, 0, none⟩ = some (.int .i64 4) := by rw [hW]; exact box_at2 _ _ _ _ 0
      have kx1 : W.cell? ⟨w.heap.size + 1, 1, none⟩ = some (.int .i64 (n)) := by rw [hW]; exact box_at2 _ _ _ _ 1
      have kx2 : W.cell? ⟨w.heap.size + 1, 2, none⟩ = some (.int .i64 (k)) := by rw [hW]; exact box_at2 _ _ _ _ 2
      have ky0 : W.cell? ⟨w.heap.size, 0, none⟩ = some (.slice (ka) nk kc) := by rw [hW]; exact box_code2 _ _ _ _ 0
      have ky1 : W.cell? ⟨w.heap.size, 1, none⟩ = some (.int .i64 x1) := by rw [hW]; exact box_code2 _ _ _ _ 1
      clear hW
      have kt := HG.out.cell htop (by simp)
      clear htop
      refine wp_region_L (S := fun V => W.grownBy V none) (Z := []) (by kernel_rfl) ?_
      have hS : W.grownBy W.drew none := ⟨rfl, rfl, rfl, Nat.le_refl _, fun _ _ _ => rfl⟩
      (try simp only [Act.put, sA, sB, sC])
      refine t1 0 104 (.int .i64 (m : Int)) hS ?_
      (try simp only [Act.put, sA, sB, sC])
      refine t2 1 105 (.bool false) (fun w' hw' => ?_) hS ?_
      · clear hw' hS; go_simp; (try (intro e; omega))
      (try simp only [Act.put, sA, sB, sC])
      refine t1 2 106 (.bool false) hS ?_
      (try simp only [Act.put, sA, sB, sC])
      refine t1 3 107 (.slice (some ⟨sb, so, none⟩) (m + 1) cap) hS ?_
      (try simp only [Act.put, sA, sB, sC])
      refine t1 4 108 (.int .i64 (m : Int)) hS ?_
      (try simp only [Act.put, sA, sB, sC])
      refine t2 5 109 (.pointer (some ⟨sb, so + m, none⟩)) (fun w' hw' => ?_) hS ?_
      · clear hw' hS; go_simp; (try (intro e; omega))
      (try simp only [Act.put, sA, sB, sC])
      refine t2 6 110 (.int .i64 x) (fun w' hw' => ?_) hS ?_
      · have z := hw'.cell kt (by simp); clear hw' hS; go_simp
      (try simp only [Act.put, sA, sB, sC])
      refine t1 7 111 (.pointer (some ⟨w.heap.size + 1, 2, none⟩)) hS ?_
      (try simp only [Act.put, sA, sB, sC])
      refine t2 8 112 (.int .i64 (k)) (fun w' hw' => ?_) hS ?_
      · have z := hw'.cell kx2 (by simp); clear hw' hS; go_simp
      (try simp only [Act.put, sA, sB, sC])
      refine t2 9 113 (.bool true) (fun w' hw' => ?_) hS ?_
      · clear hw' hS; go_simp; (try (intro e; omega))
      (try simp only [Act.put, sA, sB, sC])
      refine t1 10 114 (.bool true) hS ?_
      (try simp only [Act.put, sA, sB, sC])
      refine wpL_done (by kernel_rfl) ?_ _
      go_wp2
      go_ret2
      exact ⟨⟨HG.out.os, HG.out.tape, HG.out.output, HG.out.size, HG.out.block⟩, .inr ⟨HS.out, _, rfl⟩⟩

set_option maxHeartbeats 4000000 in
set_option maxRecDepth 100000 in
theorem rstep5_short (w : World) (c : Cd.Code) (ka : Option Addr) (kc : Nat) (ia : Option Addr) (ic : Nat) (ba : Option Addr) (bc : Nat) (n k : Int) (s : List Int) (a : Option Addr) (cap : Nat) (hs1 : s.length ≤ 1) : Calls Tryz.prog 42 #[.agg (codeV c ka kc ia ic ba bc), .agg #[.int .i64 5, .int .i64 n, .int .i64 k], .slice a s.length cap] w (StepP w c ⟨5, n, k⟩ s) := by
  have HS : Hid (Cd.step c ⟨5, n, k⟩ s = none) := Lib.hid (by
    rw [step5]
    match s, hs1 with
    | [], _ => rfl
    | [_], _ => rfl
    | _ :: _ :: _, h => simp at h)
  have hw : wrap64 ((s.length : Int) - 1) = (s.length : Int) - 1 := by unfold wrap64; omega
  have e1 : decide ((s.length : Int) - 1 < 1) = true := by rw [decide_eq_true_iff]; omega
  generalize s.length = m at *
  unfold codeV
  generalize c.kinds.length = nk at *
  generalize c.init.length = ni
  generalize c.body.length = nb
  generalize hx1 : c.ins = x1 at *
  generalize hx2 : c.outs = x2 at *
  generalize hx3 : c.cells = x3 at *
  generalize hx4 : c.stack = x4 at *
  clear hx1 hx2 hx3 hx4
  go_enter Tryz.func42, Tryz.ntmps42
  go_upto_region 20 with fail
  refine wp_as fun W hW => ?_
  have HG : Hid (w.grownBy W none) := Lib.hid (by rw [hW]; exact ga2 _ _ _)
  have kx0 : W.cell? ⟨w.heap.size + 1, 0, none⟩ = some (.int .i64 5) := by rw [hW]; exact box_at2 _ _ _ _ 0
  have kx1 : W.cell? ⟨w.heap.size + 1, 1, none⟩ = some (.int .i64 (n)) := by rw [hW]; exact box_at2 _ _ _ _ 1
  have kx2 : W.cell? ⟨w.heap.size + 1, 2, none⟩ = some (.int .i64 (k)) := by rw [hW]; exact box_at2 _ _ _ _ 2
  have ky0 : W.cell? ⟨w.heap.size, 0, none⟩ = some (.slice (ka) nk kc) := by rw [hW]; exact box_code2 _ _ _ _ 0
  have ky1 : W.cell? ⟨w.heap.size, 1, none⟩ = some (.int .i64 x1) := by rw [hW]; exact box_code2 _ _ _ _ 1
  clear hW
  refine wp_region_L (S := fun V => W.grownBy V none) (Z := []) (by kernel_rfl) ?_
  have hS : W.grownBy W.drew none := ⟨rfl, rfl, rfl, Nat.le_refl _, fun _ _ _ => rfl⟩
  (try simp only [Act.put, sA, sB, sC])
  refine t1 0 127 (.int .i64 ((m : Int) - 1)) hS ?_
  (try simp only [Act.put, sA, sB, sC])
  refine t2 1 128 (.bool true) (fun w' hw' => ?_) hS ?_
  · clear hw' hS; go_simp; (try (intro e; omega))
  (try simp only [Act.put, sA, sB, sC])
  refine t1 2 129 (.bool true) hS ?_
  (try simp only [Act.put, sA, sB, sC])
  refine t3 3 130 hS ?_
  (try simp only [Act.put, sA, sB, sC])
  refine t3 4 131 hS ?_
  (try simp only [Act.put, sA, sB, sC])
  refine t3 5 132 hS ?_
  (try simp only [Act.put, sA, sB, sC])
  refine t3 6 133 hS ?_
  (try simp only [Act.put, sA, sB, sC])
  refine t3 7 134 hS ?_
  (try simp only [Act.put, sA, sB, sC])
  refine t3 8 135 hS ?_
  (try simp only [Act.put, sA, sB, sC])
  refine t3 9 136 hS ?_
  (try simp only [Act.put, sA, sB, sC])
  refine t1 10 137 (.bool true) hS ?_
  (try simp only [Act.put, sA, sB, sC])
  refine t1 11 138 (.bool true) hS ?_
  (try simp only [Act.put, sA, sB, sC])
  refine t3 12 139 hS ?_
  (try simp only [Act.put, sA, sB, sC])
  refine t3 13 140 hS ?_
  (try simp only [Act.put, sA, sB, sC])
  refine t3 14 141 hS ?_
  (try simp only [Act.put, sA, sB, sC])
  refine t3 15 142 hS ?_
  (try simp only [Act.put, sA, sB, sC])
  refine t3 16 143 hS ?_
  (try simp only [Act.put, sA, sB, sC])
  refine t3 17 144 hS ?_
  (try simp only [Act.put, sA, sB, sC])
  refine t3 18 145 hS ?_
  (try simp only [Act.put, sA, sB, sC])
  refine t3 19 146 hS ?_
  (try simp only [Act.put, sA, sB, sC])
  refine t1 20 147 (.bool true) hS ?_
  (try simp only [Act.put, sA, sB, sC])
  refine wpL_done (by kernel_rfl) ?_ _
  go_wp2
  go_ret2
  exact ⟨⟨HG.out.os, HG.out.tape, HG.out.output, HG.out.size, HG.out.block⟩, .inr ⟨HS.out, _, rfl⟩⟩

set_option maxHeartbeats 4000000 in
set_option maxRecDepth 100000 in
theorem rstep5 (w : World) (c : Cd.Code) (ka : Option Addr) (kc : Nat) (ia : Option Addr) (ic : Nat) (ba : Option Addr) (bc : Nat) (n k : Int) (s : List Int) (a : Option Addr) (cap : Nat) (hn : NumsAt w a s.reverse) (hl : s.length ≤ 1000) (hcap : s.length ≤ cap) : Calls Tryz.prog 42 #[.agg (codeV c ka kc ia ic ba bc), .agg #[.int .i64 5, .int .i64 n, .int .i64 k], .slice a s.length cap] w (StepP w c ⟨5, n, k⟩ s) := by
  match s, hn, hl, hcap with
  | [], _, _, _ => exact rstep5_short w c ka kc ia ic ba bc n k [] a cap (by simp)
  | [z], _, _, _ => exact rstep5_short w c ka kc ia ic ba bc n k [z] a cap (by simp)
  | x :: y :: s, hn, hl, hcap =>
    obtain ⟨sb, so, rfl, htop⟩ := hn.top
    obtain ⟨sb', so', e, hnxt⟩ := hn.below.top
    cases e
    simp only [List.length_cons] at htop hl hcap
    have hm : s.length ≤ 1000 := by omega
    have hm2 : s.length < cap := by omega
    have w1 : wrap64 ((s.length : Int) + 1 + 1 - 1) = (s.length : Int) + 1 := by unfold wrap64; omega
    have w2 : wrap64 ((s.length : Int) + 1) = (s.length : Int) + 1 := by unfold wrap64; omega
    have w3 : wrap64 ((s.length : Int) + 1 - 1) = (s.length : Int) := by unfold wrap64; omega
    have w4 : wrap64 (s.length : Int) = (s.length : Int) := by unfold wrap64; omega
    have w5 : IntKind.i64.wrap (s.length : Int) = (s.length : Int) := by rw [IntKind.wrap_i64]; omega
    have w6 : IntKind.i64.wrap ((s.length : Int) + 1 - 1) = (s.length : Int) := by rw [IntKind.wrap_i64]; omega
    have e1 : decide ((s.length : Int) + 1 < 1) = false := by rw [decide_eq_false_iff_not]; omega
    have hbl := hn.below.below
    clear hn
    simp only [List.length_cons]
    by_cases hall : x = k ∧ y = k
    · obtain ⟨rfl, rfl⟩ := hall
      have HS : Hid (Cd.step c ⟨5, n, y⟩ (y :: y :: s) = if Bv.binB n y 0 0 then some (Bv.binK n y 0 0 :: s) else none) := Lib.hid (by rw [step5]; unfold Bv.binK; cases h : Bv.binB n y 0 0 <;> simp)
      have hun := fun V => rbin_any n y 0 0 (by unfold Bv.I64; omega) (by unfold Bv.I64; omega) V
      have ex : (y != y) = false := by simp
      generalize Bv.binB n y 0 0 = ok at *
      generalize Bv.binK n y 0 0 = bk at *
      generalize Bv.binN n y 0 0 = bn at *
      obtain ⟨r, hr⟩ : ∃ r, r = s.reverse := ⟨_, rfl⟩
      have hlr : s.length = r.length := by rw [hr]; simp
      rw [← hr] at hbl
      have HN := Lib.hid hbl
      have HL : Hid (r.length ≤ 1000000) := Lib.hid (by omega)
      have HR := Lib.hid hr
      clear hbl hr hl hcap
      have HM : Hid (s.length = r.length) := Lib.hid hlr
      clear hlr
      generalize s.length = m at *
      unfold codeV
      generalize c.kinds.length = nk at *
      generalize c.init.length = ni
      generalize c.body.length = nb
      generalize hx1 : c.ins = x1 at *
      generalize hx2 : c.outs = x2 at *
      generalize hx3 : c.cells = x3 at *
      generalize hx4 : c.stack = x4 at *
      clear hx1 hx2 hx3 hx4
      go_enter Tryz.func42, Tryz.ntmps42
      go_upto_region 20 with fail
      refine wp_as fun W hW => ?_
      have HG : Hid (w.grownBy W none) := Lib.hid (by rw [hW]; exact ga2 _ _ _)
      have kx0 : W.cell? ⟨w.heap.size + 1, 0, none⟩ = some (.int .i64 5) := by rw [hW]; exact box_at2 _ _ _ _ 0
      have kx1 : W.cell? ⟨w.heap.size + 1, 1, none⟩ = some (.int .i64 (n)) := by rw [hW]; exact box_at2 _ _ _ _ 1
      have kx2 : W.cell? ⟨w.heap.size + 1, 2, none⟩ = some (.int .i64 (y)) := by rw [hW]; exact box_at2 _ _ _ _ 2
      have ky0 : W.cell? ⟨w.heap.size, 0, none⟩ = some (.slice (ka) nk kc) := by rw [hW]; exact box_code2 _ _ _ _ 0
      have ky1 : W.cell? ⟨w.heap.size, 1, none⟩ = some (.int .i64 x1) := by rw [hW]; exact box_code2 _ _ _ _ 1
      clear hW
      have kt := HG.out.cell htop (by simp)
      have ku := HG.out.cell hnxt (by simp)
      clear htop hnxt
      refine wp_region_L (S := fun V => W.grownBy V none) (Z := []) (by kernel_rfl) ?_
      have hS : W.grownBy W.drew none := ⟨rfl, rfl, rfl, Nat.le_refl _, fun _ _ _ => rfl⟩
      (try simp only [Act.put, sA, sB, sC])
      refine t1 0 127 (.int .i64 ((m : Int) + 1)) hS ?_
      (try simp only [Act.put, sA, sB, sC])
      refine t2 1 128 (.bool false) (fun w' hw' => ?_) hS ?_
      · clear hw' hS; go_simp; (try (intro e; omega))
      (try simp only [Act.put, sA, sB, sC])
      refine t1 2 129 (.bool false) hS ?_
      (try simp only [Act.put, sA, sB, sC])
      refine t1 3 130 (.slice (some ⟨sb, so, none⟩) (m + 1 + 1) cap) hS ?_
      (try simp only [Act.put, sA, sB, sC])
      refine t1 4 131 (.int .i64 ((m : Int) + 1)) hS ?_
      (try simp only [Act.put, sA, sB, sC])
      refine t2 5 132 (.pointer (some ⟨sb, so + (m + 1), none⟩)) (fun w' hw' => ?_) hS ?_
      · clear hw' hS; go_simp; (try (intro e; omega))
      (try simp only [Act.put, sA, sB, sC])
      refine t2 6 133 (.int .i64 y) (fun w' hw' => ?_) hS ?_
      · have z := hw'.cell kt (by simp); clear hw' hS; go_simp
      (try simp only [Act.put, sA, sB, sC])
      refine t1 7 134 (.pointer (some ⟨w.heap.size + 1, 2, none⟩)) hS ?_
      (try simp only [Act.put, sA, sB, sC])
      refine t2 8 135 (.int .i64 (y)) (fun w' hw' => ?_) hS ?_
      · have z := hw'.cell kx2 (by simp); clear hw' hS; go_simp
      (try simp only [Act.put, sA, sB, sC])
      refine t2 9 136 (.bool false) (fun w' hw' => ?_) hS ?_
      · clear hw' hS; go_simp; (try (intro e; omega))
      (try simp only [Act.put, sA, sB, sC])
      refine t1 10 137 (.bool false) hS ?_
      (try simp only [Act.put, sA, sB, sC])
      refine t1 11 138 (.bool false) hS ?_
      (try simp only [Act.put, sA, sB, sC])
      refine t1 12 139 (.slice (some ⟨sb, so, none⟩) (m + 1 + 1) cap) hS ?_
      (try simp only [Act.put, sA, sB, sC])
      refine t1 13 140 (.int .i64 ((m : Int) + 1)) hS ?_
      (try simp only [Act.put, sA, sB, sC])
      refine t2 14 141 (.int .i64 (m : Int)) (fun w' hw' => ?_) hS ?_
      · clear hw' hS; go_simp; (try (intro e; omega))
      (try simp only [Act.put, sA, sB, sC])
      refine t2 15 142 (.pointer (some ⟨sb, so + m, none⟩)) (fun w' hw' => ?_) hS ?_
      · clear hw' hS; go_simp; (try (intro e; omega))
      (try simp only [Act.put, sA, sB, sC])
      refine t2 16 143 (.int .i64 y) (fun w' hw' => ?_) hS ?_
      · have z := hw'.cell ku (by simp); clear hw' hS; go_simp
      (try simp only [Act.put, sA, sB, sC])
      refine t1 17 144 (.pointer (some ⟨w.heap.size + 1, 2, none⟩)) hS ?_
      (try simp only [Act.put, sA, sB, sC])
      refine t2 18 145 (.int .i64 (y)) (fun w' hw' => ?_) hS ?_
      · have z := hw'.cell kx2 (by simp); clear hw' hS; go_simp
      (try simp only [Act.put, sA, sB, sC])
      refine t2 19 146 (.bool false) (fun w' hw' => ?_) hS ?_
      · clear hw' hS; go_simp; (try (intro e; omega))
      (try simp only [Act.put, sA, sB, sC])
      refine t1 20 147 (.bool false) hS ?_
      (try simp only [Act.put, sA, sB, sC])
      refine wpL_done (by kernel_rfl) ?_ _
      have HG2 := Lib.hid (drewG HG.out)
      clear hS
      go_wp2_with (first | (go_at_call 58; refine (hun _).mono ?_; clear hun; rintro e V ⟨rfl, hb⟩; have HB := Lib.hid (belowG HG2.out hb); clear hb) | (at_builtin; refine Hid.out ?_))
      refine Lib.hid ?_
      refine wpList_app_nums rfl _ _ rfl w.heap.size (by exact HB.out.size) (some ⟨sb, so, none⟩) cap r (by rw [← HM.out]; rfl) (HN.out.on HB.out) HL.out ?_
      intro v1 V1 hown1 hg1
      have HO := Lib.hid (And.intro hown1 (HB.out.trans hg1))
      obtain ⟨a1, c1, rfl⟩ : ∃ a1 c1, v1 = .slice a1 r.length c1 := by obtain ⟨a1, c1, e, _⟩ := own_nums hown1; exact ⟨a1, c1, e⟩
      clear hown1 hg1
      go_wp2_with (at_builtin; refine Hid.out ?_)
      refine Lib.hid ?_
      have hg2 := World.grownBy_alloc V1 (.cells #[.int .i64 bk] 3) none
      refine wpList_app_one rfl _ _ _ rfl w.heap.size (Nat.le_trans HO.out.2.size hg2.size) _ r rfl (HO.out.1.kept hg2 (by cases hv : (Value.slice a1 r.length c1).ownBlock <;> simp)) V1.heap.size bk rfl (by rw [cell_of_row _ _ 0 _ _ _ (heap_alloc_new V1 _)]; rfl) HL.out ?_
      intro v3 V3 hown3 hg3
      rw [HR.out] at hown3
      have HF := Lib.hid (StepP.push HS.out (grown_ov (HO.out.2.trans hg2) hg3 (fun k e => (HO.out.1.lt k e).1)) hown3)
      clear hown3 hg3 hg2
      go_wp2
      go_ret2
      exact HF.out
    · have HS : Hid (Cd.step c ⟨5, n, k⟩ (x :: y :: s) = none) := Lib.hid (by rw [step5]; exact if_neg (fun h => hall ⟨h.1, h.2.1⟩))
      clear hbl hl hcap
      generalize s.length = m at *
      by_cases hx : x = k
      · have ex : (x != k) = false := by simp [hx]
        have ey : (y != k) = true := by rw [bne_iff_ne]; exact fun h => hall ⟨hx, h⟩
        clear hall hx
        unfold codeV
        generalize c.kinds.length = nk at *
        generalize c.init.length = ni
        generalize c.body.length = nb
        generalize hx1 : c.ins = x1 at *
        generalize hx2 : c.outs = x2 at *
        generalize hx3 : c.cells = x3 at *
        generalize hx4 : c.stack = x4 at *
        clear hx1 hx2 hx3 hx4
        go_enter Tryz.func42, Tryz.ntmps42
        go_upto_region 20 with fail
        refine wp_as fun W hW => ?_
        have HG : Hid (w.grownBy W none) := Lib.hid (by rw [hW]; exact ga2 _ _ _)
        have kx0 : W.cell? ⟨w.heap.size + 1, 0, none⟩ = some (.int .i64 5) := by rw [hW]; exact box_at2 _ _ _ _ 0
        have kx1 : W.cell? ⟨w.heap.size + 1, 1, none⟩ = some (.int .i64 (n)) := by rw [hW]; exact box_at2 _ _ _ _ 1
        have kx2 : W.cell? ⟨w.heap.size + 1, 2, none⟩ = some (.int .i64 (k)) := by rw [hW]; exact box_at2 _ _ _ _ 2
        have ky0 : W.cell? ⟨w.heap.size, 0, none⟩ = some (.slice (ka) nk kc) := by rw [hW]; exact box_code2 _ _ _ _ 0
        have ky1 : W.cell? ⟨w.heap.size, 1, none⟩ = some (.int .i64 x1) := by rw [hW]; exact box_code2 _ _ _ _ 1
        clear hW
        have kt := HG.out.cell htop (by simp)
        have ku := HG.out.cell hnxt (by simp)
        clear htop hnxt
        refine wp_region_L (S := fun V => W.grownBy V none) (Z := []) (by kernel_rfl) ?_
        have hS : W.grownBy W.drew none := ⟨rfl, rfl, rfl, Nat.le_refl _, fun _ _ _ => rfl⟩
        (try simp only [Act.put, sA, sB, sC])
        refine t1 0 127 (.int .i64 ((m : Int) + 1)) hS ?_
        (try simp only [Act.put, sA, sB, sC])
        refine t2 1 128 (.bool false) (fun w' hw' => ?_) hS ?_
        · clear hw' hS; go_simp; (try (intro e; omega))
        (try simp only [Act.put, sA, sB, sC])
        refine t1 2 129 (.bool false) hS ?_
        (try simp only [Act.put, sA, sB, sC])
        refine t1 3 130 (.slice (some ⟨sb, so, none⟩) (m + 1 + 1) cap) hS ?_
        (try simp only [Act.put, sA, sB, sC])
        refine t1 4 131 (.int .i64 ((m : Int) + 1)) hS ?_
        (try simp only [Act.put, sA, sB, sC])
        refine t2 5 132 (.pointer (some ⟨sb, so + (m + 1), none⟩)) (fun w' hw' => ?_) hS ?_
        · clear hw' hS; go_simp; (try (intro e; omega))
        (try simp only [Act.put, sA, sB, sC])
        refine t2 6 133 (.int .i64 x) (fun w' hw' => ?_) hS ?_
        · have z := hw'.cell kt (by simp); clear hw' hS; go_simp
        (try simp only [Act.put, sA, sB, sC])
        refine t1 7 134 (.pointer (some ⟨w.heap.size + 1, 2, none⟩)) hS ?_
        (try simp only [Act.put, sA, sB, sC])
        refine t2 8 135 (.int .i64 (k)) (fun w' hw' => ?_) hS ?_
        · have z := hw'.cell kx2 (by simp); clear hw' hS; go_simp
        (try simp only [Act.put, sA, sB, sC])
        refine t2 9 136 (.bool false) (fun w' hw' => ?_) hS ?_
        · clear hw' hS; go_simp; (try (intro e; omega))
        (try simp only [Act.put, sA, sB, sC])
        refine t1 10 137 (.bool false) hS ?_
        (try simp only [Act.put, sA, sB, sC])
        refine t1 11 138 (.bool false) hS ?_
        (try simp only [Act.put, sA, sB, sC])
        refine t1 12 139 (.slice (some ⟨sb, so, none⟩) (m + 1 + 1) cap) hS ?_
        (try simp only [Act.put, sA, sB, sC])
        refine t1 13 140 (.int .i64 ((m : Int) + 1)) hS ?_
        (try simp only [Act.put, sA, sB, sC])
        refine t2 14 141 (.int .i64 (m : Int)) (fun w' hw' => ?_) hS ?_
        · clear hw' hS; go_simp; (try (intro e; omega))
        (try simp only [Act.put, sA, sB, sC])
        refine t2 15 142 (.pointer (some ⟨sb, so + m, none⟩)) (fun w' hw' => ?_) hS ?_
        · clear hw' hS; go_simp; (try (intro e; omega))
        (try simp only [Act.put, sA, sB, sC])
        refine t2 16 143 (.int .i64 y) (fun w' hw' => ?_) hS ?_
        · have z := hw'.cell ku (by simp); clear hw' hS; go_simp
        (try simp only [Act.put, sA, sB, sC])
        refine t1 17 144 (.pointer (some ⟨w.heap.size + 1, 2, none⟩)) hS ?_
        (try simp only [Act.put, sA, sB, sC])
        refine t2 18 145 (.int .i64 (k)) (fun w' hw' => ?_) hS ?_
        · have z := hw'.cell kx2 (by simp); clear hw' hS; go_simp
        (try simp only [Act.put, sA, sB, sC])
        refine t2 19 146 (.bool true) (fun w' hw' => ?_) hS ?_
        · clear hw' hS; go_simp; (try (intro e; omega))
        (try simp only [Act.put, sA, sB, sC])
        refine t1 20 147 (.bool true) hS ?_
        (try simp only [Act.put, sA, sB, sC])
        refine wpL_done (by kernel_rfl) ?_ _
        go_wp2
        go_ret2
        exact ⟨⟨HG.out.os, HG.out.tape, HG.out.output, HG.out.size, HG.out.block⟩, .inr ⟨HS.out, _, rfl⟩⟩
      · have ex : (x != k) = true := by simp [hx]
        clear hall hx
        unfold codeV
        generalize c.kinds.length = nk at *
        generalize c.init.length = ni
        generalize c.body.length = nb
        generalize hx1 : c.ins = x1 at *
        generalize hx2 : c.outs = x2 at *
        generalize hx3 : c.cells = x3 at *
        generalize hx4 : c.stack = x4 at *
        clear hx1 hx2 hx3 hx4
        go_enter Tryz.func42, Tryz.ntmps42
        go_upto_region 20 with fail
        refine wp_as fun W hW => ?_
        have HG : Hid (w.grownBy W none) := Lib.hid (by rw [hW]; exact ga2 _ _ _)
        have kx0 : W.cell? ⟨w.heap.size + 1, 0, none⟩ = some (.int .i64 5) := by rw [hW]; exact box_at2 _ _ _ _ 0
        have kx1 : W.cell? ⟨w.heap.size + 1, 1, none⟩ = some (.int .i64 (n)) := by rw [hW]; exact box_at2 _ _ _ _ 1
        have kx2 : W.cell? ⟨w.heap.size + 1, 2, none⟩ = some (.int .i64 (k)) := by rw [hW]; exact box_at2 _ _ _ _ 2
        have ky0 : W.cell? ⟨w.heap.size, 0, none⟩ = some (.slice (ka) nk kc) := by rw [hW]; exact box_code2 _ _ _ _ 0
        have ky1 : W.cell? ⟨w.heap.size, 1, none⟩ = some (.int .i64 x1) := by rw [hW]; exact box_code2 _ _ _ _ 1
        clear hW
        have kt := HG.out.cell htop (by simp)
        have ku := HG.out.cell hnxt (by simp)
        clear htop hnxt
        refine wp_region_L (S := fun V => W.grownBy V none) (Z := []) (by kernel_rfl) ?_
        have hS : W.grownBy W.drew none := ⟨rfl, rfl, rfl, Nat.le_refl _, fun _ _ _ => rfl⟩
        (try simp only [Act.put, sA, sB, sC])
        refine t1 0 127 (.int .i64 ((m : Int) + 1)) hS ?_
        (try simp only [Act.put, sA, sB, sC])
        refine t2 1 128 (.bool false) (fun w' hw' => ?_) hS ?_
        · clear hw' hS; go_simp; (try (intro e; omega))
        (try simp only [Act.put, sA, sB, sC])
        refine t1 2 129 (.bool false) hS ?_
        (try simp only [Act.put, sA, sB, sC])
        refine t1 3 130 (.slice (some ⟨sb, so, none⟩) (m + 1 + 1) cap) hS ?_
        (try simp only [Act.put, sA, sB, sC])
        refine t1 4 131 (.int .i64 ((m : Int) + 1)) hS ?_
        (try simp only [Act.put, sA, sB, sC])
        refine t2 5 132 (.pointer (some ⟨sb, so + (m + 1), none⟩)) (fun w' hw' => ?_) hS ?_
        · clear hw' hS; go_simp; (try (intro e; omega))
        (try simp only [Act.put, sA, sB, sC])
        refine t2 6 133 (.int .i64 x) (fun w' hw' => ?_) hS ?_
        · have z := hw'.cell kt (by simp); clear hw' hS; go_simp
        (try simp only [Act.put, sA, sB, sC])
        refine t1 7 134 (.pointer (some ⟨w.heap.size + 1, 2, none⟩)) hS ?_
        (try simp only [Act.put, sA, sB, sC])
        refine t2 8 135 (.int .i64 (k)) (fun w' hw' => ?_) hS ?_
        · have z := hw'.cell kx2 (by simp); clear hw' hS; go_simp
        (try simp only [Act.put, sA, sB, sC])
        refine t2 9 136 (.bool true) (fun w' hw' => ?_) hS ?_
        · clear hw' hS; go_simp; (try (intro e; omega))
        (try simp only [Act.put, sA, sB, sC])
        refine t1 10 137 (.bool true) hS ?_
        (try simp only [Act.put, sA, sB, sC])
        refine t1 11 138 (.bool true) hS ?_
        (try simp only [Act.put, sA, sB, sC])
        refine t3 12 139 hS ?_
        (try simp only [Act.put, sA, sB, sC])
        refine t3 13 140 hS ?_
        (try simp only [Act.put, sA, sB, sC])
        refine t3 14 141 hS ?_
        (try simp only [Act.put, sA, sB, sC])
        refine t3 15 142 hS ?_
        (try simp only [Act.put, sA, sB, sC])
        refine t3 16 143 hS ?_
        (try simp only [Act.put, sA, sB, sC])
        refine t3 17 144 hS ?_
        (try simp only [Act.put, sA, sB, sC])
        refine t3 18 145 hS ?_
        (try simp only [Act.put, sA, sB, sC])
        refine t3 19 146 hS ?_
        (try simp only [Act.put, sA, sB, sC])
        refine t1 20 147 (.bool true) hS ?_
        (try simp only [Act.put, sA, sB, sC])
        refine wpL_done (by kernel_rfl) ?_ _
        go_wp2
        go_ret2
        exact ⟨⟨HG.out.os, HG.out.tape, HG.out.output, HG.out.size, HG.out.block⟩, .inr ⟨HS.out, _, rfl⟩⟩
end Go.Proofs.YtfbhflpjhbemlaaGreat

/- Stage 19: metronomeref19.step of a cast, a jump, a branch, an end (written by mkcud.py). -/
namespace Go.Proofs.YtfbhflpjhbemlaaGreat
open Go.RowKit Go.Maps Go.WideMaps

theorem wid_nn (k : Int) : 0 ≤ Bv.wid k := by
  unfold Bv.wid
  repeat' split
  all_goals omega
theorem step6 (c : Cd.Code) (n k : Int) (s : List Int) : Cd.step c ⟨6, n, k⟩ s = (match s with | [] => none | a :: r => if a = n ∧ 0 < Bv.wid k then some (k :: r) else none) := rfl
theorem step7 (c : Cd.Code) (n k : Int) (s : List Int) : Cd.step c ⟨7, n, k⟩ s = if k = 0 then some s else none := rfl
theorem step8 (c : Cd.Code) (n k : Int) (s : List Int) : Cd.step c ⟨8, n, k⟩ s = (match s with | [] => none | a :: r => if k = 0 ∧ a = 1 then some r else none) := rfl
theorem step9 (c : Cd.Code) (n k : Int) (s : List Int) : Cd.step c ⟨9, n, k⟩ s = if n = 0 ∧ k = 0 ∧ s = [] then some [] else none := rfl

set_option maxHeartbeats 4000000 in
set_option maxRecDepth 100000 in
theorem rstep6 (w : World) (c : Cd.Code) (ka : Option Addr) (kc : Nat) (ia : Option Addr) (ic : Nat) (ba : Option Addr) (bc : Nat) (n k : Int) (s : List Int) (a : Option Addr) (cap : Nat) (hn : NumsAt w a s.reverse) (hl : s.length ≤ 1000) (hcap : s.length ≤ cap) : Calls Tryz.prog 42 #[.agg (codeV c ka kc ia ic ba bc), .agg #[.int .i64 6, .int .i64 n, .int .i64 k], .slice a s.length cap] w (StepP w c ⟨6, n, k⟩ s) := by
  cases s with
  | nil =>
    have HS : Hid (Cd.step c ⟨6, n, k⟩ [] = none) := Lib.hid rfl
    clear hn hcap hl
    unfold codeV
    generalize c.kinds.length = nk at *
    generalize c.init.length = ni
    generalize c.body.length = nb
    generalize hx1 : c.ins = x1 at *
    generalize hx2 : c.outs = x2 at *
    generalize hx3 : c.cells = x3 at *
    generalize hx4 : c.stack = x4 at *
    clear hx1 hx2 hx3 hx4
    simp only [List.length_nil] at *
    go_enter Tryz.func42, Tryz.ntmps42
    go_upto_region 25 with fail
    refine wp_as fun W hW => ?_
    have HG : Hid (w.grownBy W none) := Lib.hid (by rw [hW]; exact ga2 _ _ _)
    have kx0 : W.cell? ⟨w.heap.size + 1, 0, none⟩ = some (.int .i64 6) := by rw [hW]; exact box_at2 _ _ _ _ 0
    have kx1 : W.cell? ⟨w.heap.size + 1, 1, none⟩ = some (.int .i64 (n)) := by rw [hW]; exact box_at2 _ _ _ _ 1
    have kx2 : W.cell? ⟨w.heap.size + 1, 2, none⟩ = some (.int .i64 (k)) := by rw [hW]; exact box_at2 _ _ _ _ 2
    have ky0 : W.cell? ⟨w.heap.size, 0, none⟩ = some (.slice (ka) nk kc) := by rw [hW]; exact box_code2 _ _ _ _ 0
    have ky1 : W.cell? ⟨w.heap.size, 1, none⟩ = some (.int .i64 x1) := by rw [hW]; exact box_code2 _ _ _ _ 1
    clear hW
    refine wp_region_L (S := fun V => W.grownBy V none) (Z := []) (by kernel_rfl) ?_
    have hS : W.grownBy W.drew none := ⟨rfl, rfl, rfl, Nat.le_refl _, fun _ _ _ => rfl⟩
    (try simp only [Act.put, sA, sB, sC])
    refine t1 0 168 (.int .i64 (-1)) hS ?_
    (try simp only [Act.put, sA, sB, sC])
    refine t2 1 169 (.bool true) (fun w' hw' => ?_) hS ?_
    · clear hw' hS; go_simp; (try (intro e; omega))
    (try simp only [Act.put, sA, sB, sC])
    refine t1 2 170 (.bool true) hS ?_
    (try simp only [Act.put, sA, sB, sC])
    refine t3 3 171 hS ?_
    (try simp only [Act.put, sA, sB, sC])
    refine t3 4 172 hS ?_
    (try simp only [Act.put, sA, sB, sC])
    refine t3 5 173 hS ?_
    (try simp only [Act.put, sA, sB, sC])
    refine t3 6 174 hS ?_
    (try simp only [Act.put, sA, sB, sC])
    refine t3 7 175 hS ?_
    (try simp only [Act.put, sA, sB, sC])
    refine t3 8 176 hS ?_
    (try simp only [Act.put, sA, sB, sC])
    refine t3 9 177 hS ?_
    (try simp only [Act.put, sA, sB, sC])
    refine t1 10 178 (.bool true) hS ?_
    (try simp only [Act.put, sA, sB, sC])
    refine t1 11 179 (.bool true) hS ?_
    (try simp only [Act.put, sA, sB, sC])
    refine t3 12 180 hS ?_
    (try simp only [Act.put, sA, sB, sC])
    refine t3 13 181 hS ?_
    (try simp only [Act.put, sA, sB, sC])
    refine t3 14 182 hS ?_
    (try simp only [Act.put, sA, sB, sC])
    refine t3 15 183 hS ?_
    (try simp only [Act.put, sA, sB, sC])
    refine t1 16 184 (.bool true) hS ?_
    (try simp only [Act.put, sA, sB, sC])
    refine wpL_done (by kernel_rfl) ?_ _
    go_wp2
    go_ret2
    exact ⟨⟨HG.out.os, HG.out.tape, HG.out.output, HG.out.size, HG.out.block⟩, .inr ⟨HS.out, _, rfl⟩⟩
  | cons x s =>
    obtain ⟨sb, so, rfl, htop⟩ := hn.top
    have hm : s.length ≤ 1000 := by simp at hl; omega
    have hm2 : s.length < cap := by simp at hcap; omega
    obtain ⟨w1, w2⟩ := wr_top hm
    simp only [List.length_cons]
    by_cases hxk : x = n
    · subst hxk
      have ex : (x != x) = false := by simp
      have hun := fun V => rwidth_any k V
      by_cases hwk : 0 < Bv.wid k
      · have HS : Hid (Cd.step c ⟨6, x, k⟩ (x :: s) = if true then some (k :: s) else none) := Lib.hid (by rw [step6]; exact if_pos ⟨rfl, hwk⟩)
        have ew : (Bv.wid k == 0) = false := by rw [beq_eq_false_iff_ne]; omega
        have hbl := hn.below
        clear hn
        clear hwk
        generalize Bv.wid k = wk at *
        obtain ⟨r, hr⟩ : ∃ r, r = s.reverse := ⟨_, rfl⟩
        have hlr : s.length = r.length := by rw [hr]; simp
        rw [← hr] at hbl
        have HN := Lib.hid hbl
        have HL : Hid (r.length ≤ 1000000) := Lib.hid (by omega)
        have HR := Lib.hid hr
        clear hbl hr hl hcap
        have HM : Hid (s.length = r.length) := Lib.hid hlr
        clear hlr
        generalize s.length = m at *
        unfold codeV
        generalize c.kinds.length = nk at *
        generalize c.init.length = ni
        generalize c.body.length = nb
        generalize hx1 : c.ins = x1 at *
        generalize hx2 : c.outs = x2 at *
        generalize hx3 : c.cells = x3 at *
        generalize hx4 : c.stack = x4 at *
        clear hx1 hx2 hx3 hx4
        go_enter Tryz.func42, Tryz.ntmps42
        go_upto_region 25 with fail
        refine wp_as fun W hW => ?_
        have HG : Hid (w.grownBy W none) := Lib.hid (by rw [hW]; exact ga2 _ _ _)
        have kx0 : W.cell? ⟨w.heap.size + 1, 0, none⟩ = some (.int .i64 6) := by rw [hW]; exact box_at2 _ _ _ _ 0
        have kx1 : W.cell? ⟨w.heap.size + 1, 1, none⟩ = some (.int .i64 (x)) := by rw [hW]; exact box_at2 _ _ _ _ 1
        have kx2 : W.cell? ⟨w.heap.size + 1, 2, none⟩ = some (.int .i64 (k)) := by rw [hW]; exact box_at2 _ _ _ _ 2
        have ky0 : W.cell? ⟨w.heap.size, 0, none⟩ = some (.slice (ka) nk kc) := by rw [hW]; exact box_code2 _ _ _ _ 0
        have ky1 : W.cell? ⟨w.heap.size, 1, none⟩ = some (.int .i64 x1) := by rw [hW]; exact box_code2 _ _ _ _ 1
        clear hW
        have kt := HG.out.cell htop (by simp)
        clear htop
        refine wp_region_L (S := fun V => W.grownBy V none) (Z := []) (by kernel_rfl) ?_
        have hS : W.grownBy W.drew none := ⟨rfl, rfl, rfl, Nat.le_refl _, fun _ _ _ => rfl⟩
        (try simp only [Act.put, sA, sB, sC])
        refine t1 0 168 (.int .i64 (m : Int)) hS ?_
        (try simp only [Act.put, sA, sB, sC])
        refine t2 1 169 (.bool false) (fun w' hw' => ?_) hS ?_
        · clear hw' hS; go_simp; (try (intro e; omega))
        (try simp only [Act.put, sA, sB, sC])
        refine t1 2 170 (.bool false) hS ?_
        (try simp only [Act.put, sA, sB, sC])
        refine t1 3 171 (.slice (some ⟨sb, so, none⟩) (m + 1) cap) hS ?_
        (try simp only [Act.put, sA, sB, sC])
        refine t1 4 172 (.int .i64 (m : Int)) hS ?_
        (try simp only [Act.put, sA, sB, sC])
        refine t2 5 173 (.pointer (some ⟨sb, so + m, none⟩)) (fun w' hw' => ?_) hS ?_
        · clear hw' hS; go_simp; (try (intro e; omega))
        (try simp only [Act.put, sA, sB, sC])
        refine t2 6 174 (.int .i64 x) (fun w' hw' => ?_) hS ?_
        · have z := hw'.cell kt (by simp); clear hw' hS; go_simp
        (try simp only [Act.put, sA, sB, sC])
        refine t1 7 175 (.pointer (some ⟨w.heap.size + 1, 1, none⟩)) hS ?_
        (try simp only [Act.put, sA, sB, sC])
        refine t2 8 176 (.int .i64 (x)) (fun w' hw' => ?_) hS ?_
        · have z := hw'.cell kx1 (by simp); clear hw' hS; go_simp
        (try simp only [Act.put, sA, sB, sC])
        refine t2 9 177 (.bool false) (fun w' hw' => ?_) hS ?_
        · clear hw' hS; go_simp; (try (intro e; omega))
        (try simp only [Act.put, sA, sB, sC])
        refine t1 10 178 (.bool false) hS ?_
        (try simp only [Act.put, sA, sB, sC])
        refine t1 11 179 (.bool false) hS ?_
        (try simp only [Act.put, sA, sB, sC])
        refine t1 12 180 (.pointer (some ⟨w.heap.size + 1, 2, none⟩)) hS ?_
        (try simp only [Act.put, sA, sB, sC])
        refine t2 13 181 (.int .i64 (k)) (fun w' hw' => ?_) hS ?_
        · have z := hw'.cell kx2 (by simp); clear hw' hS; go_simp
        (try simp only [Act.put, sA, sB, sC])
        refine wpL_call (i := 14) (d := 182) (g := 40) (args := #[.int .i64 k]) (R := fun v V => v = .int .i64 wk ∧ W.grownBy V none) (by kernel_rfl) rfl rfl (by kernel_rfl) (by kernel_rfl) ((hun _).mono (by rintro e w' ⟨rfl, rfl⟩; exact ⟨_, rfl, rfl, hS⟩)) (fun v V h => h.2) (fun v V h => ?_)
        clear hS
        obtain ⟨rfl, hS⟩ := h
        (try simp only [Act.put, sA, sB, sC])
        refine t2 15 183 (.bool false) (fun w' hw' => ?_) hS ?_
        · clear hw' hS; go_simp; (try (intro e; omega))
        (try simp only [Act.put, sA, sB, sC])
        refine t1 16 184 (.bool false) hS ?_
        (try simp only [Act.put, sA, sB, sC])
        refine wpL_done (by kernel_rfl) ?_ _
        have hSV := hS
        clear hS
        go_upto_region 27 with fail
        refine wp_as fun X hX => ?_
        have HGX : Hid (w.grownBy X none) := Lib.hid (by rw [hX]; exact HG.out.trans hSV)
        have kx2 : X.cell? ⟨w.heap.size + 1, 2, none⟩ = some (.int .i64 k) := by rw [hX]; exact hSV.cell kx2 (by simp)
        clear hX hSV
        refine wp_region_L (S := fun V => X.grownBy V none) (Z := []) (by kernel_rfl) ?_
        have hS : X.grownBy X.drew none := ⟨rfl, rfl, rfl, Nat.le_refl _, fun _ _ _ => rfl⟩
        (try simp only [Act.put, sA, sB, sC])
        refine t1 0 185 (.slice (some ⟨sb, so, none⟩) (m + 1) cap) hS ?_
        (try simp only [Act.put, sA, sB, sC])
        refine t1 1 186 (.int .i64 (m : Int)) hS ?_
        (try simp only [Act.put, sA, sB, sC])
        refine t2 2 187 (.slice (some ⟨sb, so, none⟩) m cap) (fun w' hw' => ?_) hS ?_
        · clear hw' hS; go_simp; (try omega)
        (try simp only [Act.put, sA, sB, sC])
        refine t1 4 189 (.pointer (some ⟨w.heap.size + 1, 2, none⟩)) hS ?_
        (try simp only [Act.put, sA, sB, sC])
        refine t2 5 190 (.int .i64 k) (fun w' hw' => ?_) hS ?_
        · have z := hw'.cell kx2 (by simp); clear hw' hS; go_simp
        (try simp only [Act.put, sA, sB, sC])
        rw [HM.out]
        refine wpL_app2 (i := 3) (j := 6) (k := 7) (d1 := 188) (d2 := 191) (d3 := 192) (x := .tmp 187) (la := some ⟨sb, so, none⟩) (lc := cap) (L := r) (n := k) (hx := rfl) (hx2 := fun _ => rfl) (hb1 := fun _ => by kernel_rfl) (hb2 := fun _ _ => by kernel_rfl) (he := fun _ _ => ⟨rfl, rfl⟩) (hl := HN.out.on (HGX.out.trans hS)) (hn := HL.out) (hS := fun w' hg => hS.trans hg) (h := fun v1 v2 v3 w' hg hown => ?_)
        have hS' : X.grownBy w' none := hS.trans hg
        clear hS hg
        (try simp only [Act.put, sA, sB, sC])
        refine t1 8 6 v3 hS' ?_
        (try simp only [Act.put, sA, sB, sC])
        refine t1 9 7 (.bool true) hS' ?_
        (try simp only [Act.put, sA, sB, sC])
        refine wpL_done (by kernel_rfl) ?_ _
        rw [HR.out] at hown
        have HF := Lib.hid (StepP.push HS.out (HGX.out.trans hS') hown)
        clear hS' hown
        go_wp2
        go_ret2
        exact HF.out
      · have HS : Hid (Cd.step c ⟨6, x, k⟩ (x :: s) = none) := Lib.hid (by rw [step6]; exact if_neg (fun h => hwk h.2))
        have ew : (Bv.wid k == 0) = true := by rw [beq_iff_eq]; have := wid_nn k; omega
        clear hwk hn hl hcap
        generalize Bv.wid k = wk at *
        generalize s.length = m at *
        unfold codeV
        generalize c.kinds.length = nk at *
        generalize c.init.length = ni
        generalize c.body.length = nb
        generalize hx1 : c.ins = x1 at *
        generalize hx2 : c.outs = x2 at *
        generalize hx3 : c.cells = x3 at *
        generalize hx4 : c.stack = x4 at *
        clear hx1 hx2 hx3 hx4
        go_enter Tryz.func42, Tryz.ntmps42
        go_upto_region 25 with fail
        refine wp_as fun W hW => ?_
        have HG : Hid (w.grownBy W none) := Lib.hid (by rw [hW]; exact ga2 _ _ _)
        have kx0 : W.cell? ⟨w.heap.size + 1, 0, none⟩ = some (.int .i64 6) := by rw [hW]; exact box_at2 _ _ _ _ 0
        have kx1 : W.cell? ⟨w.heap.size + 1, 1, none⟩ = some (.int .i64 (x)) := by rw [hW]; exact box_at2 _ _ _ _ 1
        have kx2 : W.cell? ⟨w.heap.size + 1, 2, none⟩ = some (.int .i64 (k)) := by rw [hW]; exact box_at2 _ _ _ _ 2
        have ky0 : W.cell? ⟨w.heap.size, 0, none⟩ = some (.slice (ka) nk kc) := by rw [hW]; exact box_code2 _ _ _ _ 0
        have ky1 : W.cell? ⟨w.heap.size, 1, none⟩ = some (.int .i64 x1) := by rw [hW]; exact box_code2 _ _ _ _ 1
        clear hW
        have kt := HG.out.cell htop (by simp)
        clear htop
        refine wp_region_L (S := fun V => W.grownBy V none) (Z := []) (by kernel_rfl) ?_
        have hS : W.grownBy W.drew none := ⟨rfl, rfl, rfl, Nat.le_refl _, fun _ _ _ => rfl⟩
        (try simp only [Act.put, sA, sB, sC])
        refine t1 0 168 (.int .i64 (m : Int)) hS ?_
        (try simp only [Act.put, sA, sB, sC])
        refine t2 1 169 (.bool false) (fun w' hw' => ?_) hS ?_
        · clear hw' hS; go_simp; (try (intro e; omega))
        (try simp only [Act.put, sA, sB, sC])
        refine t1 2 170 (.bool false) hS ?_
        (try simp only [Act.put, sA, sB, sC])
        refine t1 3 171 (.slice (some ⟨sb, so, none⟩) (m + 1) cap) hS ?_
        (try simp only [Act.put, sA, sB, sC])
        refine t1 4 172 (.int .i64 (m : Int)) hS ?_
        (try simp only [Act.put, sA, sB, sC])
        refine t2 5 173 (.pointer (some ⟨sb, so + m, none⟩)) (fun w' hw' => ?_) hS ?_
        · clear hw' hS; go_simp; (try (intro e; omega))
        (try simp only [Act.put, sA, sB, sC])
        refine t2 6 174 (.int .i64 x) (fun w' hw' => ?_) hS ?_
        · have z := hw'.cell kt (by simp); clear hw' hS; go_simp
        (try simp only [Act.put, sA, sB, sC])
        refine t1 7 175 (.pointer (some ⟨w.heap.size + 1, 1, none⟩)) hS ?_
        (try simp only [Act.put, sA, sB, sC])
        refine t2 8 176 (.int .i64 (x)) (fun w' hw' => ?_) hS ?_
        · have z := hw'.cell kx1 (by simp); clear hw' hS; go_simp
        (try simp only [Act.put, sA, sB, sC])
        refine t2 9 177 (.bool false) (fun w' hw' => ?_) hS ?_
        · clear hw' hS; go_simp; (try (intro e; omega))
        (try simp only [Act.put, sA, sB, sC])
        refine t1 10 178 (.bool false) hS ?_
        (try simp only [Act.put, sA, sB, sC])
        refine t1 11 179 (.bool false) hS ?_
        (try simp only [Act.put, sA, sB, sC])
        refine t1 12 180 (.pointer (some ⟨w.heap.size + 1, 2, none⟩)) hS ?_
        (try simp only [Act.put, sA, sB, sC])
        refine t2 13 181 (.int .i64 (k)) (fun w' hw' => ?_) hS ?_
        · have z := hw'.cell kx2 (by simp); clear hw' hS; go_simp
        (try simp only [Act.put, sA, sB, sC])
        refine wpL_call (i := 14) (d := 182) (g := 40) (args := #[.int .i64 k]) (R := fun v V => v = .int .i64 wk ∧ W.grownBy V none) (by kernel_rfl) rfl rfl (by kernel_rfl) (by kernel_rfl) ((hun _).mono (by rintro e w' ⟨rfl, rfl⟩; exact ⟨_, rfl, rfl, hS⟩)) (fun v V h => h.2) (fun v V h => ?_)
        clear hS
        obtain ⟨rfl, hS⟩ := h
        (try simp only [Act.put, sA, sB, sC])
        refine t2 15 183 (.bool true) (fun w' hw' => ?_) hS ?_
        · clear hw' hS; go_simp; (try (intro e; omega))
        (try simp only [Act.put, sA, sB, sC])
        refine t1 16 184 (.bool true) hS ?_
        (try simp only [Act.put, sA, sB, sC])
        refine wpL_done (by kernel_rfl) ?_ _
        have HSV := Lib.hid (HG.out.trans hS)
        clear hS
        go_wp2
        go_ret2
        exact ⟨HSV.out, .inr ⟨HS.out, _, rfl⟩⟩
    · have HS : Hid (Cd.step c ⟨6, n, k⟩ (x :: s) = none) := Lib.hid (by rw [step6]; exact if_neg (fun h => hxk h.1))
      have ex : (x != n) = true := by simp [hxk]
      clear hxk hn hl hcap
      generalize s.length = m at *
      unfold codeV
      generalize c.kinds.length = nk at *
      generalize c.init.length = ni
      generalize c.body.length = nb
      generalize hx1 : c.ins = x1 at *
      generalize hx2 : c.outs = x2 at *
      generalize hx3 : c.cells = x3 at *
      generalize hx4 : c.stack = x4 at *
      clear hx1 hx2 hx3 hx4
      go_enter Tryz.func42, Tryz.ntmps42
      go_upto_region 25 with fail
      refine wp_as fun W hW => ?_
      have HG : Hid (w.grownBy W none) := Lib.hid (by rw [hW]; exact ga2 _ _ _)
      have kx0 : W.cell? ⟨w.heap.size + 1, 0, none⟩ = some (.int .i64 6) := by rw [hW]; exact box_at2 _ _ _ _ 0
      have kx1 : W.cell? ⟨w.heap.size + 1, 1, none⟩ = some (.int .i64 (n)) := by rw [hW]; exact box_at2 _ _ _ _ 1
      have kx2 : W.cell? ⟨w.heap.size + 1, 2, none⟩ = some (.int .i64 (k)) := by rw [hW]; exact box_at2 _ _ _ _ 2
      have ky0 : W.cell? ⟨w.heap.size, 0, none⟩ = some (.slice (ka) nk kc) := by rw [hW]; exact box_code2 _ _ _ _ 0
      have ky1 : W.cell? ⟨w.heap.size, 1, none⟩ = some (.int .i64 x1) := by rw [hW]; exact box_code2 _ _ _ _ 1
      clear hW
      have kt := HG.out.cell htop (by simp)
      clear htop
      refine wp_region_L (S := fun V => W.grownBy V none) (Z := []) (by kernel_rfl) ?_
      have hS : W.grownBy W.drew none := ⟨rfl, rfl, rfl, Nat.le_refl _, fun _ _ _ => rfl⟩
      (try simp only [Act.put, sA, sB, sC])
      refine t1 0 168 (.int .i64 (m : Int)) hS ?_
      (try simp only [Act.put, sA, sB, sC])
      refine t2 1 169 (.bool false) (fun w' hw' => ?_) hS ?_
      · clear hw' hS; go_simp; (try (intro e; omega))
      (try simp only [Act.put, sA, sB, sC])
      refine t1 2 170 (.bool false) hS ?_
      (try simp only [Act.put, sA, sB, sC])
      refine t1 3 171 (.slice (some ⟨sb, so, none⟩) (m + 1) cap) hS ?_
      (try simp only [Act.put, sA, sB, sC])
      refine t1 4 172 (.int .i64 (m : Int)) hS ?_
      (try simp only [Act.put, sA, sB, sC])
      refine t2 5 173 (.pointer (some ⟨sb, so + m, none⟩)) (fun w' hw' => ?_) hS ?_
      · clear hw' hS; go_simp; (try (intro e; omega))
      (try simp only [Act.put, sA, sB, sC])
      refine t2 6 174 (.int .i64 x) (fun w' hw' => ?_) hS ?_
      · have z := hw'.cell kt (by simp); clear hw' hS; go_simp
      (try simp only [Act.put, sA, sB, sC])
      refine t1 7 175 (.pointer (some ⟨w.heap.size + 1, 1, none⟩)) hS ?_
      (try simp only [Act.put, sA, sB, sC])
      refine t2 8 176 (.int .i64 (n)) (fun w' hw' => ?_) hS ?_
      · have z := hw'.cell kx1 (by simp); clear hw' hS; go_simp
      (try simp only [Act.put, sA, sB, sC])
      refine t2 9 177 (.bool true) (fun w' hw' => ?_) hS ?_
      · clear hw' hS; go_simp; (try (intro e; omega))
      (try simp only [Act.put, sA, sB, sC])
      refine t1 10 178 (.bool true) hS ?_
      (try simp only [Act.put, sA, sB, sC])
      refine t1 11 179 (.bool true) hS ?_
      (try simp only [Act.put, sA, sB, sC])
      refine t3 12 180 hS ?_
      (try simp only [Act.put, sA, sB, sC])
      refine t3 13 181 hS ?_
      (try simp only [Act.put, sA, sB, sC])
      refine t3 14 182 hS ?_
      (try simp only [Act.put, sA, sB, sC])
      refine t3 15 183 hS ?_
      (try simp only [Act.put, sA, sB, sC])
      refine t1 16 184 (.bool true) hS ?_
      (try simp only [Act.put, sA, sB, sC])
      refine wpL_done (by kernel_rfl) ?_ _
      go_wp2
      go_ret2
      exact ⟨⟨HG.out.os, HG.out.tape, HG.out.output, HG.out.size, HG.out.block⟩, .inr ⟨HS.out, _, rfl⟩⟩

set_option maxHeartbeats 4000000 in
set_option maxRecDepth 100000 in
theorem rstep7 (w : World) (c : Cd.Code) (ka : Option Addr) (kc : Nat) (ia : Option Addr) (ic : Nat) (ba : Option Addr) (bc : Nat) (n k : Int) (s : List Int) (a : Option Addr) (cap : Nat) (hn : NumsAt w a s.reverse) (hl : s.length ≤ 1000) (hcap : s.length ≤ cap) : Calls Tryz.prog 42 #[.agg (codeV c ka kc ia ic ba bc), .agg #[.int .i64 7, .int .i64 n, .int .i64 k], .slice a s.length cap] w (StepP w c ⟨7, n, k⟩ s) := by
  by_cases hk : k = 0
  · subst hk
    have HN2 : Hid (∀ V, w.grownBy V none → StepP w c ⟨7, n, 0⟩ s (.returned (.tuple #[.slice a s.length cap, .bool true])) V) := Lib.hid (fun V hg => StepP.keep (by rw [step7, if_pos rfl]) hg hn hcap)
    have hl2 : s.length ≤ 9223372036854775807 := by omega
    clear hn hl hcap
    generalize s.length = m at *
    unfold codeV
    generalize c.kinds.length = nk at *
    generalize c.init.length = ni
    generalize c.body.length = nb
    generalize hx1 : c.ins = x1 at *
    generalize hx2 : c.outs = x2 at *
    generalize hx3 : c.cells = x3 at *
    generalize hx4 : c.stack = x4 at *
    clear hx1 hx2 hx3 hx4
    go_enter Tryz.func42, Tryz.ntmps42
    go_upto_region 29 with fail
    refine wp_as fun W hW => ?_
    have HG : Hid (w.grownBy W none) := Lib.hid (by rw [hW]; exact ga2 _ _ _)
    have kx0 : W.cell? ⟨w.heap.size + 1, 0, none⟩ = some (.int .i64 7) := by rw [hW]; exact box_at2 _ _ _ _ 0
    have kx1 : W.cell? ⟨w.heap.size + 1, 1, none⟩ = some (.int .i64 (n)) := by rw [hW]; exact box_at2 _ _ _ _ 1
    have kx2 : W.cell? ⟨w.heap.size + 1, 2, none⟩ = some (.int .i64 (0)) := by rw [hW]; exact box_at2 _ _ _ _ 2
    have ky0 : W.cell? ⟨w.heap.size, 0, none⟩ = some (.slice (ka) nk kc) := by rw [hW]; exact box_code2 _ _ _ _ 0
    have ky1 : W.cell? ⟨w.heap.size, 1, none⟩ = some (.int .i64 x1) := by rw [hW]; exact box_code2 _ _ _ _ 1
    clear hW
    refine wp_region_L (S := fun V => W.grownBy V none) (Z := []) (by kernel_rfl) ?_
    have hS : W.grownBy W.drew none := ⟨rfl, rfl, rfl, Nat.le_refl _, fun _ _ _ => rfl⟩
    (try simp only [Act.put, sA, sB, sC])
    refine t1 0 195 (.slice a m cap) hS ?_
    (try simp only [Act.put, sA, sB, sC])
    refine t1 1 196 (.pointer (some ⟨w.heap.size + 1, 2, none⟩)) hS ?_
    (try simp only [Act.put, sA, sB, sC])
    refine t2 2 197 (.int .i64 (0)) (fun w' hw' => ?_) hS ?_
    · have z := hw'.cell kx2 (by simp); clear hw' hS; go_simp
    (try simp only [Act.put, sA, sB, sC])
    refine t2 3 198 (.bool true) (fun w' hw' => ?_) hS ?_
    · clear hw' hS; go_simp; (try (intro e; omega))
    (try simp only [Act.put, sA, sB, sC])
    refine t1 4 6 (.slice a m cap) hS ?_
    (try simp only [Act.put, sA, sB, sC])
    refine t1 5 7 (.bool true) hS ?_
    (try simp only [Act.put, sA, sB, sC])
    refine wpL_done (by kernel_rfl) ?_ _
    go_wp2
    go_ret2
    exact HN2.out _ (drewG HG.out)
  · have HS : Hid (Cd.step c ⟨7, n, k⟩ s = none) := Lib.hid (by rw [step7, if_neg hk])
    have ek : (k == 0) = false := by simp [hk]
    have hl2 : s.length ≤ 9223372036854775807 := by omega
    clear hn hl hcap hk
    generalize s.length = m at *
    unfold codeV
    generalize c.kinds.length = nk at *
    generalize c.init.length = ni
    generalize c.body.length = nb
    generalize hx1 : c.ins = x1 at *
    generalize hx2 : c.outs = x2 at *
    generalize hx3 : c.cells = x3 at *
    generalize hx4 : c.stack = x4 at *
    clear hx1 hx2 hx3 hx4
    go_enter Tryz.func42, Tryz.ntmps42
    go_upto_region 29 with fail
    refine wp_as fun W hW => ?_
    have HG : Hid (w.grownBy W none) := Lib.hid (by rw [hW]; exact ga2 _ _ _)
    have kx0 : W.cell? ⟨w.heap.size + 1, 0, none⟩ = some (.int .i64 7) := by rw [hW]; exact box_at2 _ _ _ _ 0
    have kx1 : W.cell? ⟨w.heap.size + 1, 1, none⟩ = some (.int .i64 (n)) := by rw [hW]; exact box_at2 _ _ _ _ 1
    have kx2 : W.cell? ⟨w.heap.size + 1, 2, none⟩ = some (.int .i64 (k)) := by rw [hW]; exact box_at2 _ _ _ _ 2
    have ky0 : W.cell? ⟨w.heap.size, 0, none⟩ = some (.slice (ka) nk kc) := by rw [hW]; exact box_code2 _ _ _ _ 0
    have ky1 : W.cell? ⟨w.heap.size, 1, none⟩ = some (.int .i64 x1) := by rw [hW]; exact box_code2 _ _ _ _ 1
    clear hW
    refine wp_region_L (S := fun V => W.grownBy V none) (Z := []) (by kernel_rfl) ?_
    have hS : W.grownBy W.drew none := ⟨rfl, rfl, rfl, Nat.le_refl _, fun _ _ _ => rfl⟩
    (try simp only [Act.put, sA, sB, sC])
    refine t1 0 195 (.slice a m cap) hS ?_
    (try simp only [Act.put, sA, sB, sC])
    refine t1 1 196 (.pointer (some ⟨w.heap.size + 1, 2, none⟩)) hS ?_
    (try simp only [Act.put, sA, sB, sC])
    refine t2 2 197 (.int .i64 (k)) (fun w' hw' => ?_) hS ?_
    · have z := hw'.cell kx2 (by simp); clear hw' hS; go_simp
    (try simp only [Act.put, sA, sB, sC])
    refine t2 3 198 (.bool false) (fun w' hw' => ?_) hS ?_
    · clear hw' hS; go_simp; (try (intro e; omega))
    (try simp only [Act.put, sA, sB, sC])
    refine t1 4 6 (.slice a m cap) hS ?_
    (try simp only [Act.put, sA, sB, sC])
    refine t1 5 7 (.bool false) hS ?_
    (try simp only [Act.put, sA, sB, sC])
    refine wpL_done (by kernel_rfl) ?_ _
    go_wp2
    go_ret2
    exact ⟨⟨HG.out.os, HG.out.tape, HG.out.output, HG.out.size, HG.out.block⟩, .inr ⟨HS.out, _, rfl⟩⟩

set_option maxHeartbeats 4000000 in
set_option maxRecDepth 100000 in
theorem rstep8 (w : World) (c : Cd.Code) (ka : Option Addr) (kc : Nat) (ia : Option Addr) (ic : Nat) (ba : Option Addr) (bc : Nat) (n k : Int) (s : List Int) (a : Option Addr) (cap : Nat) (hn : NumsAt w a s.reverse) (hl : s.length ≤ 1000) (hcap : s.length ≤ cap) : Calls Tryz.prog 42 #[.agg (codeV c ka kc ia ic ba bc), .agg #[.int .i64 8, .int .i64 n, .int .i64 k], .slice a s.length cap] w (StepP w c ⟨8, n, k⟩ s) := by
  by_cases hk : k = 0
  · subst hk
    cases s with
    | nil =>
      have HS : Hid (Cd.step c ⟨8, n, 0⟩ [] = none) := Lib.hid rfl
      clear hn hcap hl
      unfold codeV
      generalize c.kinds.length = nk at *
      generalize c.init.length = ni
      generalize c.body.length = nb
      generalize hx1 : c.ins = x1 at *
      generalize hx2 : c.outs = x2 at *
      generalize hx3 : c.cells = x3 at *
      generalize hx4 : c.stack = x4 at *
      clear hx1 hx2 hx3 hx4
      simp only [List.length_nil] at *
      go_enter Tryz.func42, Tryz.ntmps42
      go_wp2
      go_ret2
      exact ⟨by first | exact ga2 _ _ _ | exact ga2D _ _ _, .inr ⟨HS.out, _, rfl⟩⟩
    | cons x s =>
      obtain ⟨sb, so, rfl, htop⟩ := hn.top
      have hm : s.length ≤ 1000 := by simp at hl; omega
      have hm2 : s.length < cap := by simp at hcap; omega
      obtain ⟨w1, w2⟩ := wr_top hm
      simp only [List.length_cons]
      have hcc : ∀ A B : Obj, ((w.alloc A).alloc B).cell? ⟨sb, so + s.length, none⟩ = some (.int .i64 x) := fun A B => (ga2 w A B).cell htop (by simp)
      clear htop
      by_cases hx1 : x = 1
      · have HN2 : Hid (∀ V, w.grownBy V none → StepP w c ⟨8, n, 0⟩ (x :: s) (.returned (.tuple #[.slice (some ⟨sb, so, none⟩) s.length cap, .bool true])) V) := Lib.hid (fun V hg => StepP.keep (by rw [step8]; exact if_pos ⟨rfl, hx1⟩) hg hn.below (by omega))
        subst hx1
        clear hn hl hcap
        generalize s.length = m at *
        unfold codeV
        generalize c.kinds.length = nk at *
        generalize c.init.length = ni
        generalize c.body.length = nb
        generalize hx1 : c.ins = x1 at *
        generalize hx2 : c.outs = x2 at *
        generalize hx3 : c.cells = x3 at *
        generalize hx4 : c.stack = x4 at *
        clear hx1 hx2 hx3 hx4
        go_enter Tryz.func42, Tryz.ntmps42
        go_wp2
        go_ret2
        exact HN2.out _ (by first | exact ga2 _ _ _ | exact ga2D _ _ _)
      · have HS : Hid (Cd.step c ⟨8, n, 0⟩ (x :: s) = none) := Lib.hid (by rw [step8]; exact if_neg (fun h => hx1 h.2))
        have ex : (x != 1) = true := by simp [hx1]
        clear hn hl hcap hx1
        generalize s.length = m at *
        unfold codeV
        generalize c.kinds.length = nk at *
        generalize c.init.length = ni
        generalize c.body.length = nb
        generalize hx1 : c.ins = x1 at *
        generalize hx2 : c.outs = x2 at *
        generalize hx3 : c.cells = x3 at *
        generalize hx4 : c.stack = x4 at *
        clear hx1 hx2 hx3 hx4
        go_enter Tryz.func42, Tryz.ntmps42
        go_wp2
        go_ret2
        exact ⟨by first | exact ga2 _ _ _ | exact ga2D _ _ _, .inr ⟨HS.out, _, rfl⟩⟩
  · have HS : Hid (Cd.step c ⟨8, n, k⟩ s = none) := Lib.hid (by rw [step8]; cases s with | nil => rfl | cons x s => exact if_neg (fun h => hk h.1))
    have ek : (k != 0) = true := by simp [hk]
    have hl2 : s.length ≤ 9223372036854775807 := by omega
    clear hn hl hcap hk
    generalize s.length = m at *
    unfold codeV
    generalize c.kinds.length = nk at *
    generalize c.init.length = ni
    generalize c.body.length = nb
    generalize hx1 : c.ins = x1 at *
    generalize hx2 : c.outs = x2 at *
    generalize hx3 : c.cells = x3 at *
    generalize hx4 : c.stack = x4 at *
    clear hx1 hx2 hx3 hx4
    go_enter Tryz.func42, Tryz.ntmps42
    go_wp2
    go_ret2
    exact ⟨by first | exact ga2 _ _ _ | exact ga2D _ _ _, .inr ⟨HS.out, _, rfl⟩⟩

set_option maxHeartbeats 4000000 in
set_option maxRecDepth 100000 in
theorem rstep9 (w : World) (c : Cd.Code) (ka : Option Addr) (kc : Nat) (ia : Option Addr) (ic : Nat) (ba : Option Addr) (bc : Nat) (n k : Int) (s : List Int) (a : Option Addr) (cap : Nat) (hn : NumsAt w a s.reverse) (hl : s.length ≤ 1000) (hcap : s.length ≤ cap) : Calls Tryz.prog 42 #[.agg (codeV c ka kc ia ic ba bc), .agg #[.int .i64 9, .int .i64 n, .int .i64 k], .slice a s.length cap] w (StepP w c ⟨9, n, k⟩ s) := by
  by_cases hn0 : n = 0
  · subst hn0
    by_cases hk : k = 0
    · subst hk
      cases s with
      | nil =>
        have HN2 : Hid (∀ V, w.grownBy V none → StepP w c ⟨9, 0, 0⟩ [] (.returned (.tuple #[.slice a 0 cap, .bool true])) V) := Lib.hid (fun V hg => StepP.keep (by rw [step9]; exact if_pos ⟨rfl, rfl, rfl⟩) hg hn hcap)
        clear hn hcap hl
        unfold codeV
        generalize c.kinds.length = nk at *
        generalize c.init.length = ni
        generalize c.body.length = nb
        generalize hx1 : c.ins = x1 at *
        generalize hx2 : c.outs = x2 at *
        generalize hx3 : c.cells = x3 at *
        generalize hx4 : c.stack = x4 at *
        clear hx1 hx2 hx3 hx4
        simp only [List.length_nil] at *
        go_enter Tryz.func42, Tryz.ntmps42
        go_wp2
        go_ret2
        exact HN2.out _ (by first | exact ga2 _ _ _ | exact ga2D _ _ _)
      | cons x s =>
        have HS : Hid (Cd.step c ⟨9, 0, 0⟩ (x :: s) = none) := Lib.hid (by rw [step9]; exact if_neg (fun h => by simp at h))
        have hl2 : (x :: s).length ≤ 9223372036854775807 := by omega
        have e0 : (((x :: s).length : Int) == 0) = false := by rw [beq_eq_false_iff_ne]; simp; omega
        clear hn hcap hl
        generalize (x :: s).length = m at *
        unfold codeV
        generalize c.kinds.length = nk at *
        generalize c.init.length = ni
        generalize c.body.length = nb
        generalize hx1 : c.ins = x1 at *
        generalize hx2 : c.outs = x2 at *
        generalize hx3 : c.cells = x3 at *
        generalize hx4 : c.stack = x4 at *
        clear hx1 hx2 hx3 hx4
        go_enter Tryz.func42, Tryz.ntmps42
        go_wp2
        go_ret2
        exact ⟨by first | exact ga2 _ _ _ | exact ga2D _ _ _, .inr ⟨HS.out, _, rfl⟩⟩
    · have HS : Hid (Cd.step c ⟨9, 0, k⟩ s = none) := Lib.hid (by rw [step9, if_neg (fun h => hk h.2.1)])
      have ek : (k == 0) = false := by simp [hk]
      have hl2 : s.length ≤ 9223372036854775807 := by omega
      clear hn hl hcap hk
      generalize s.length = m at *
      unfold codeV
      generalize c.kinds.length = nk at *
      generalize c.init.length = ni
      generalize c.body.length = nb
      generalize hx1 : c.ins = x1 at *
      generalize hx2 : c.outs = x2 at *
      generalize hx3 : c.cells = x3 at *
      generalize hx4 : c.stack = x4 at *
      clear hx1 hx2 hx3 hx4
      go_enter Tryz.func42, Tryz.ntmps42
      go_wp2
      go_ret2
      exact ⟨by first | exact ga2 _ _ _ | exact ga2D _ _ _, .inr ⟨HS.out, _, rfl⟩⟩
  · have HS : Hid (Cd.step c ⟨9, n, k⟩ s = none) := Lib.hid (by rw [step9, if_neg (fun h => hn0 h.1)])
    have en : (n == 0) = false := by simp [hn0]
    have hl2 : s.length ≤ 9223372036854775807 := by omega
    clear hn hl hcap hn0
    generalize s.length = m at *
    unfold codeV
    generalize c.kinds.length = nk at *
    generalize c.init.length = ni
    generalize c.body.length = nb
    generalize hx1 : c.ins = x1 at *
    generalize hx2 : c.outs = x2 at *
    generalize hx3 : c.cells = x3 at *
    generalize hx4 : c.stack = x4 at *
    clear hx1 hx2 hx3 hx4
    go_enter Tryz.func42, Tryz.ntmps42
    go_wp2
    go_ret2
    exact ⟨by first | exact ga2 _ _ _ | exact ga2D _ _ _, .inr ⟨HS.out, _, rfl⟩⟩
end Go.Proofs.YtfbhflpjhbemlaaGreat
