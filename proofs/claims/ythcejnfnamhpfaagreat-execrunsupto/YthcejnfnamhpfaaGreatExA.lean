/- Package exec: a tick in memory: slots, stack, what comes next; push and pop. -/
import Derived.Test.YthcejnfnamhpfaaGreatExN
import Derived.Test.YthcejnfnamhpfaaGreatJnE
import Derived.Test.YthcejnfnamhpfaaGreatJnH
import Derived.Test.YthcejnfnamhpfaaGreatJnF
import Derived.Maps.AppendAt
namespace Go.Proofs.YthcejnfnamhpfaaGreat
open Go.RowKit Go.Maps Go.WideMaps

/-- a world by a name -/
theorem wp_asx {P : Program} {c : Code} {Q : Exit → Act → World → Prop} {a : Act} {w : World} (h : ∀ W, W = w → c.wp P Q a W) : c.wp P Q a w := h w rfl
abbrev ints (l : List Int) : List Value := l.map (Value.int .i64)
/-- the tick in block t, its slots in block g, its stack sv -/
structure Tk (W w : World) (t g : Nat) (val s : List Int) (pc : Nat) (en : Bool) (sv : Value) : Prop where
  kp : Kp [g] W w
  gl : g < W.heap.size
  tl : W.heap.size ≤ t
  rt : w.heap[t]? = some (.cells #[.slice (some ⟨g, 0, none⟩) val.length val.length, sv, .int .i64 (pc : Int), .bool en] 83 (0, 0))
  rg : w.heap[g]? = some (.cells (ints val).toArray 3 (0, 0))
  own : w.ownsRow W.heap.size 3 1 sv s.length (ints s)
  ne : sv.ownBlock ≠ some t
/-- what a method leaves: all but the tick, its slots, its stack -/
structure To (t g : Nat) (w : World) (sv : Value) (w' : World) (sv' : Value) : Prop where
  kp : Kp (t :: g :: sv.ownBlock.toList) w w'
  own : sv'.ownBlock = sv.ownBlock ∨ ∃ k, sv'.ownBlock = some k ∧ w.heap.size ≤ k
section
variable {W w w' w2 : World} {t g : Nat} {val s : List Int} {pc : Nat} {en : Bool} {sv sv' sv2 : Value}
theorem To.refl (t g : Nat) (w : World) (sv : Value) : To t g w sv w sv := ⟨Kp.refl _ _, .inl rfl⟩
theorem To.lt (h : To t g w sv w' sv') {k : Nat} (hk : k < w.heap.size) (ht : k ≠ t) (hg : k ≠ g) (ho : sv.ownBlock ≠ some k) : w'.heap[k]? = w.heap[k]? ∧ sv'.ownBlock ≠ some k := by
  refine ⟨h.kp.block k hk ?_, ?_⟩
  · simp only [List.mem_cons, Option.mem_toList, not_or]
    exact ⟨ht, hg, ho⟩
  · rcases h.own with e | ⟨j, e, hj⟩
    · rw [e]; exact ho
    · rw [e]; intro e2; have := Option.some.inj e2; omega
theorem To.trans (h : To t g w sv w' sv') (k : To t g w' sv' w2 sv2) : To t g w sv w2 sv2 := by
  refine ⟨⟨k.kp.os.trans h.kp.os, k.kp.tape.trans h.kp.tape, k.kp.output.trans h.kp.output, Nat.le_trans h.kp.size k.kp.size, fun i hi hx => ?_⟩, ?_⟩
  · simp only [List.mem_cons, Option.mem_toList, not_or] at hx
    obtain ⟨h1, h2⟩ := h.lt hi hx.1 hx.2.1 hx.2.2
    exact (k.lt (Nat.lt_of_lt_of_le hi h.kp.size) hx.1 hx.2.1 h2).1.trans h1
  · rcases k.own with e | ⟨j, e, hj⟩
    · rw [e]; exact h.own
    · exact .inr ⟨j, e, Nat.le_trans h.kp.size hj⟩
theorem To.of (hg : w.grownBy w' none) : To t g w sv w' sv := ⟨Kp.of0 hg _, .inl rfl⟩
theorem To.drew (h : To t g w sv w' sv') : To t g w sv w'.drew sv' := ⟨h.kp.drew, h.own⟩
theorem Tk.lt (h : Tk W w t g val s pc en sv) : t < w.heap.size := (Array.getElem?_eq_some_iff.1 h.rt).1
theorem Tk.ob (h : Tk W w t g val s pc en sv) : ∀ k, sv.ownBlock = some k → W.heap.size ≤ k ∧ k < w.heap.size := h.own.lt
theorem Tk.tg (h : Tk W w t g val s pc en sv) : t ≠ g := by have := h.gl; have := h.tl; omega
theorem Tk.og (h : Tk W w t g val s pc en sv) : sv.ownBlock ≠ some g := fun e => by have := (h.ob g e).1; have := h.gl; omega
theorem Tk.gg (h : Tk W w t g val s pc en sv) : g < w.heap.size := Nat.lt_of_lt_of_le h.gl h.kp.size
/-- what turns none of them -/
theorem Tk.on (h : Tk W w t g val s pc en sv) (hg : w.grownBy w' none) : Tk W w' t g val s pc en sv :=
  ⟨h.kp.trans (Kp.of0 hg _), h.gl, h.tl, (hg.block t h.lt (by simp)).trans h.rt, (hg.block g h.gg (by simp)).trans h.rg, h.own.kept hg (by cases sv.ownBlock <;> simp), h.ne⟩
/-- the tick's own row is another -/
theorem Tk.reset (h : Tk W w t g val s pc en sv) (hk : Kp [t] w w') {s' : List Int} {pc' : Nat} {en' : Bool} {sv' : Value} (hr : w'.heap[t]? = some (.cells #[.slice (some ⟨g, 0, none⟩) val.length val.length, sv', .int .i64 (pc' : Int), .bool en'] 83 (0, 0)))
    (ho : w'.ownsRow W.heap.size 3 1 sv' s'.length (ints s')) (hn : sv'.ownBlock ≠ some t) : Tk W w' t g val s' pc' en' sv' :=
  ⟨⟨hk.os.trans h.kp.os, hk.tape.trans h.kp.tape, hk.output.trans h.kp.output, Nat.le_trans h.kp.size hk.size, fun i hi hx => (hk.block i (Nat.lt_of_lt_of_le hi h.kp.size) (by simp; have := h.tl; omega)).trans (h.kp.block i hi hx)⟩, h.gl, h.tl, hr, (hk.block g h.gg (by simp; exact fun e => h.tg e.symm)).trans h.rg, ho, hn⟩
theorem owns_on {w w' : World} {B : Nat} {T : TypeId} {z n : Nat} {v : Value} {xs : List Value} (h : w.ownsRow B T z v n xs) (hb : ∀ k, v.ownBlock = some k → w'.heap[k]? = w.heap[k]?) : w'.ownsRow B T z v n xs := by
  refine ⟨h.1, h.2.imp id ?_⟩
  rintro ⟨g, cap, cur, rfl, h1, h2, h3⟩
  exact ⟨g, cap, cur, rfl, h1, (hb g rfl).trans h2, h3⟩
/-- the first ones of what one owns -/
theorem owns_take {w : World} {B : Nat} {b c : Nat} {s : List Int} {a : Int} (h : w.ownsRow B 3 1 (.slice (some ⟨b, 0, none⟩) (s ++ [a]).length c) (s ++ [a]).length (ints (s ++ [a]))) : w.ownsRow B 3 1 (.slice (some ⟨b, 0, none⟩) s.length c) s.length (ints s) := by
  refine ⟨by simp [ints], .inr ?_⟩
  rcases h.2 with ⟨h0, _⟩ | ⟨g, cap, cur, h0, h1, h2, h3, h4, h5, h6⟩
  · cases h0
  · cases h0
    refine ⟨_, _, cur, rfl, h1, h2, by simp at h3; omega, h4, h5, ?_⟩
    have := congrArg (List.take s.length) h6
    rw [List.take_take] at this
    simp [ints] at this
    simpa [ints] using this
theorem Tk.drew (h : Tk W w t g val s pc en sv) : Tk W w.drew t g val s pc en sv := ⟨h.kp.drew, h.gl, h.tl, h.rt, h.rg, h.own, h.ne⟩
end
theorem own_form {w : World} {B n : Nat} {e : TypeId} {sz : Nat} {v : Value} {xs : List Value} (h : w.ownsRow B e sz v n xs) : ∃ a c, v = .slice a n c := by
  rcases h.2 with ⟨rfl, e⟩ | ⟨g, cap, cur, rfl, _⟩
  · rw [e]; exact ⟨_, _, rfl⟩
  · exact ⟨_, _, rfl⟩
theorem row_cellx {w : World} {b : Nat} {cs : List Value} {T : TypeId} {fr : Nat × Nat} (h : w.heap[b]? = some (.cells cs.toArray T fr)) : ∀ j u, cs[j]? = some u → w.cell? ((⟨b, 0, none⟩ : Addr).add j) = some u := fun j u hu => by
  rw [addr_at, Nat.zero_add]
  unfold World.cell?
  rw [h]
  simpa using hu
theorem setrow {w : World} {b j : Nat} {cs : Array Value} {T : TypeId} (v : Value) (h : w.heap[b]? = some (.cells cs T (0, 0))) : (w.setCell ⟨b, j, none⟩ v).heap[b]? = some (.cells (cs.setIfInBounds j v) T (0, 0)) := heap_setCell_same w b j _ _ v h
theorem kp_set (w : World) (b j : Nat) (v : Value) : Kp [b] w (w.setCell ⟨b, j, none⟩ v) := (Kp.refl _ _).set (by simp) v

set_option maxHeartbeats 1000000 in
theorem xpush_any {W w : World} {t g : Nat} {val s : List Int} {pc : Nat} {en : Bool} {sv : Value} (h : Tk W w t g val s pc en sv) (hl : s.length ≤ 1000) (n : Int) :
    Calls Tryz.prog 87 #[.pointer (some ⟨t, 0, none⟩), .int .i64 n] w fun e w' => e = .returned (.tuple #[]) ∧ ∃ sv', Tk W w' t g val (s ++ [n]) pc en sv' ∧ To t g w sv w' sv' := by
  obtain ⟨i0, hi, hz0, hzs, hzb⟩ := info_parts info_i
  have c1 := cell_of_row w t 1 _ _ _ h.rt
  have HH := Lib.hid h
  have HI := Lib.hid (And.intro hi (And.intro hz0 (And.intro hzs hzb)))
  have hWw : W.heap.size ≤ w.heap.size := h.kp.size
  have HW := Lib.hid hWw
  have HL := Lib.hid hl
  clear h hi hz0 hzs hzb hl hWw
  go_enter Tryz.func87, Tryz.ntmps87
  go_wp2_with (at_builtin; refine wpList_append_own_at _ rfl _ _ 22 rfl W.heap.size 3 i0 _ 1 8 Tryz.underlying22 HI.out.1 HI.out.2.1 HI.out.2.2.1 HI.out.2.2.2 rfl (by decide) sv s.length (ints s) rfl (HH.out.own.alloc _) ⟨w.heap.size, 0, none⟩ 1 1 [.int .i64 n] rfl rfl (row_cellx (heap_alloc_new w _)) (by intro u hu; simp at hu; subst hu; rfl) (by have := HL.out; unfold maxLen; omega) (by have := HL.out; omega) (by have := HW.out; rw [World.size_alloc]; omega) ?_)
  intro v' w3 hown hgr _ hat
  obtain ⟨a9, k9, rfl⟩ := own_form hown
  generalize hv9 : Value.slice a9 (s.length + 1) k9 = v' at *
  have hal := World.grownBy_alloc w (.cells #[.int .i64 n] 3) none
  have tl2 : t < (w.alloc (.cells #[.int .i64 n] 3)).heap.size := Nat.lt_of_lt_of_le HH.out.lt hal.size
  have hr3 : w3.heap[t]? = some (.cells #[.slice (some ⟨g, 0, none⟩) val.length val.length, sv, .int .i64 (pc : Int), .bool en] 83 (0, 0)) :=
    (hgr.block t tl2 (fun e => HH.out.ne e.symm)).trans ((hal.block t HH.out.lt (by simp)).trans HH.out.rt)
  have hob : v'.ownBlock = sv.ownBlock ∨ ∃ k, v'.ownBlock = some k ∧ w.heap.size ≤ k := by
    rcases hat with e | e
    · exact .inl e
    · exact .inr ⟨_, e, by simp⟩
  have hvt : v'.ownBlock ≠ some t := by
    rcases hob with e | ⟨k, e, hk⟩
    · rw [e]; exact HH.out.ne
    · rw [e]; intro e2; have := Option.some.inj e2; have := HH.out.lt; omega
  have hr4 := setrow v' (j := 1) hr3
  have hk4 : Kp (t :: g :: sv.ownBlock.toList) w (w3.setCell ⟨t, 1, none⟩ v') := by
    refine Kp.set (Kp.trans (Kp.of0 hal _) (Kp.of hgr _ (fun k e _ => ?_))) (by simp) v'
    rw [e]; simp
  have HF : Hid (∃ sv', Tk W (w3.setCell ⟨t, 1, none⟩ v') t g val (s ++ [n]) pc en sv' ∧ To t g w sv (w3.setCell ⟨t, 1, none⟩ v') sv') := by
    refine Lib.hid ⟨v', ⟨⟨hk4.os.trans HH.out.kp.os, hk4.tape.trans HH.out.kp.tape, hk4.output.trans HH.out.kp.output, Nat.le_trans HH.out.kp.size hk4.size, fun k hk hx => ?_⟩, HH.out.gl, HH.out.tl, hr4, ?_, ?_, hvt⟩, hk4, hob⟩
    · refine (hk4.block k (Nat.lt_of_lt_of_le hk HH.out.kp.size) ?_).trans (HH.out.kp.block k hk hx)
      simp only [List.mem_cons, Option.mem_toList, not_or]
      refine ⟨by have := HH.out.tl; omega, by simpa using hx, fun e => ?_⟩
      have := (HH.out.ob k e).1
      omega
    · refine (heap_setCell_other w3 ⟨t, 1, none⟩ g v' (fun e => HH.out.tg e.symm)).trans ((hgr.block g (Nat.lt_of_lt_of_le HH.out.gg hal.size) (fun e => HH.out.og e.symm)).trans ((hal.block g HH.out.gg (by simp)).trans HH.out.rg))
    · have e1 : ints s ++ [Value.int .i64 n] = ints (s ++ [n]) := by simp
      have e2 : s.length + 1 = (s ++ [n]).length := by simp
      rw [← e1, ← e2]
      exact owns_on hown (fun k e => heap_setCell_other w3 ⟨t, 1, none⟩ k v' (fun e2 => hvt (by rw [e, e2])))
  have c1' := cell_of_row w3 t 1 _ _ _ hr3
  have f1' := frozen_of_row w3 t 1 _ _ hr3
  clear hown hgr hat hal tl2 hr3 hob hvt hr4 hk4 c1
  subst hv9
  go_wp2
  go_end0
  exact ⟨rfl, HF.out⟩

set_option maxHeartbeats 1000000 in
theorem xpop_any {W w : World} {t g : Nat} {val s : List Int} {a : Int} {pc : Nat} {en : Bool} {sv : Value} (h : Tk W w t g val (s ++ [a]) pc en sv) (hl : s.length ≤ 1000) :
    Calls Tryz.prog 88 #[.pointer (some ⟨t, 0, none⟩)] w fun e w' => e = .returned (.int .i64 a) ∧ ∃ sv', Tk W w' t g val s pc en sv' ∧ To t g w sv w' sv' := by
  obtain ⟨b, cap, rfl, hbW, hb, hcap, hcm⟩ : ∃ b cap, sv = .slice (some ⟨b, 0, none⟩) (s ++ [a]).length cap ∧ W.heap.size ≤ b ∧ w.cell? ⟨b, s.length, none⟩ = some (.int .i64 a) ∧ (s ++ [a]).length ≤ cap ∧ cap ≤ maxLen := by
    rcases h.own.2 with ⟨_, h0⟩ | ⟨g2, cap, cur, rfl, h1, h2, h3, h4, h5, h6⟩
    · simp at h0
    · have := h.own.cells (g := g2) rfl s.length (.int .i64 a) (by simp)
      rw [addr_at, Nat.zero_add] at this
      exact ⟨g2, cap, rfl, h1, this, h3, h4⟩
  have c1 := cell_of_row w t 1 _ _ _ h.rt
  have f1 := frozen_of_row w t 1 _ _ h.rt
  have HF : Hid (∃ sv', Tk W (w.setCell ⟨t, 1, none⟩ (.slice (some ⟨b, 0, none⟩) s.length cap)) t g val s pc en sv' ∧ To t g w (.slice (some ⟨b, 0, none⟩) (s ++ [a]).length cap) (w.setCell ⟨t, 1, none⟩ (.slice (some ⟨b, 0, none⟩) s.length cap)) sv') := by
    have hn : b ≠ t := fun e => h.ne (by rw [e]; rfl)
    have ho := owns_take h.own
    refine Lib.hid ⟨.slice (some ⟨b, 0, none⟩) s.length cap, h.reset (kp_set _ _ _ _) (setrow _ (j := 1) h.rt) (owns_on ho (fun k e => heap_setCell_other w ⟨t, 1, none⟩ k _ (fun e2 => hn (by simp [Value.ownBlock] at e; rw [e, e2])))) h.ne, (kp_set w t 1 _).mono (by simp), .inl rfl⟩
  have en2 : (s ++ [a]).length = s.length + 1 := by simp
  clear h hbW
  rw [en2] at c1 hcap HF ⊢
  generalize s.length = n at *
  go_enter Tryz.func88, Tryz.ntmps88
  go_wp2
  go_ret
  exact ⟨rfl, HF.out⟩
end Go.Proofs.YthcejnfnamhpfaaGreat
