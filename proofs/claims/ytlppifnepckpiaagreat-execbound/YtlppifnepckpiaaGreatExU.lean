/- Package emit: the longest way. -/
import Derived.Test.YtlppifnepckpiaaGreatExT
import Derived.Deep.CutRange
namespace Go.Proofs.YtlppifnepckpiaaGreat
open Go.RowKit Go.Maps Go.WideMaps

/-- what longest has in memory -/
structure Lo (w wr : World) (rb g m : Nat) (ran : List Int) : Prop where
  gw : w.grownBy wr none
  r1 : wr.heap[rb]? = some (.cells #[.slice (some ⟨g, 0, none⟩) m m] 22 (0, 0))
  r2 : wr.heap[g]? = some (.cells (ints ran).toArray 3 (0, 0))
  lo : w.heap.size ≤ g
  ne : rb ≠ g
theorem Lo.on {w wr w' : World} {rb g m : Nat} {ran : List Int} (h : Lo w wr rb g m ran) (hg : wr.grownBy w' none) : Lo w w' rb g m ran :=
  ⟨h.gw.trans hg, (hg.block rb (gl h.r1) (by simp)).trans h.r1, (hg.block g (gl h.r2) (by simp)).trans h.r2, h.lo, h.ne⟩
theorem Lo.put {w wr w' : World} {rb g m : Nat} {ran ran' : List Int} (h : Lo w wr rb g m ran) (hk : Kp [g] wr w') (h2 : w'.heap[g]? = some (.cells (ints ran').toArray 3 (0, 0))) : Lo w w' rb g m ran' :=
  ⟨Kp.grown h.gw hk (fun k hk => by simp at hk; rw [hk]; exact h.lo), hk.slot h.r1 h.ne, h2, h.lo, h.ne⟩

theorem set_ints (l : List Int) (i : Nat) (v : Int) : (ints l).toArray.setIfInBounds i (.int .i64 v) = (ints (l.set i v)).toArray := by simp [List.map_set]

set_option maxHeartbeats 4000000 in
theorem longest_any (w : World) (c : Cd.Code) (ba : Option Addr) (bc : Nat) (hB : InssAt w ba c.body) (hok : Cd.check c = 0) (h64 : I64s c) :
    Calls Tryz.prog 42 #[.slice ba c.body.length bc] w fun e w' => ∃ most : Int, e = .returned (.int .i64 most) ∧ Ex.Longest c most ∧ w.grownBy w' none := by
  obtain ⟨m, hm⟩ : ∃ m, c.body.length = m := ⟨_, rfl⟩
  obtain ⟨o1, _, _, _, _, _, _, _, _, o10, o11, _⟩ := Ex.ok_parts hok
  have hmk := fun V => mk_ints m (by omega) V
  have hm1 : m ≤ 60000 := by omega
  have hm2 : 0 < m := by omega
  have HH := Lib.hid (And.intro hB (And.intro hok (And.intro h64 (And.intro hm o11))))
  rw [hm]
  clear hB hok h64 hm o1 o10 o11
  go_enter Tryz.func42, Tryz.ntmps42
  go_upto_region 3 with fail
  refine wp_asx (fun W1 hW1 => ?_)
  obtain ⟨g, hg⟩ : ∃ g, g = w.heap.size := ⟨_, rfl⟩
  obtain ⟨rb, hrb⟩ : ∃ rb, rb = g + 1 := ⟨_, rfl⟩
  have hr1 : W1.heap[rb]? = some (.cells #[.slice (some ⟨g, 0, none⟩) m m] 22 (0, 0)) := by
    rw [hW1, hrb, hg]
    have := heap_alloc_new (w.alloc (.cells (madeCells #[.int .i64 0] m) 3)) (.cells #[.slice (some ⟨w.heap.size, 0, none⟩) m m] 22)
    rwa [World.size_alloc] at this
  have hr2 : W1.heap[g]? = some (.cells (ints (List.replicate m 0)).toArray 3 (0, 0)) := by
    rw [hW1, hg, ← made_ints]
    rw [heap_alloc_old _ _ (by rw [World.size_alloc]; omega)]
    exact heap_alloc_new w _
  have hgw : w.grownBy W1 none := by
    rw [hW1]
    exact (World.grownBy_alloc w _ none).trans (World.grownBy_alloc _ _ none)
  have c1 := cell_of_row W1 rb 0 _ _ _ hr1
  have c2 : W1.cell? ⟨g, 0, none⟩ = some (.int .i64 0) := by rw [cell_of_row W1 g 0 _ _ _ hr2]; simp [hm2]
  have f2 := frozen_of_row W1 g 0 _ _ hr2
  have HL0 : Hid (Lo w (W1.setCell ⟨g, 0, none⟩ (.int .i64 1)) rb g m ((List.replicate m 0).set 0 1)) := Lib.hid (by
    have h0 : Lo w W1 rb g m (List.replicate m 0) := ⟨hgw, hr1, hr2, by omega, by omega⟩
    exact h0.put (kp_set _ _ _ _) (setrow2 _ hr2 (set_ints ..)))
  try simp only [World.size_alloc]
  rw [← hg]
  rw [← hrb]
  clear hW1 hg hrb hr1 hr2 hgw
  go_upto_region 4 with fail
  clear c1 c2 f2
  refine wp_asx (fun W2 hW2 => ?_)
  rw [← hW2] at HL0
  clear hW2
  have HT0 : Hid (Lo w W2 rb g m ((List.replicate m 0).set 0 1) ∧ Ex.Lng c 0 0 ((List.replicate m 0).set 0 1)) := Lib.hid ⟨HL0.out, by have := Ex.Lng.begin HH.out.2.1; rwa [HH.out.2.2.2.1] at this⟩
  clear HL0 hmk
  go_wp2
  go_loopw [3, 15] (fun sv iv wr => ∃ (t : Nat) (most : Int) (ran : List Int), t ≤ m ∧ sv = .int .i64 most ∧ iv = .int .i64 (t : Int) ∧ Hid (Lo w wr rb g m ran ∧ Ex.Lng c t most ran)) (fun _ i _ => m - (intOf i).toNat)
  case atStart => exact ⟨0, 0, _, Nat.zero_le _, rfl, rfl, HT0⟩
  case round =>
    obtain ⟨t, most, ran, ht, rfl, rfl, HT⟩ := hrel
    clear HT0
    by_cases hlt : t < m
    · obtain ⟨x, hx⟩ : ∃ x, c.body[t]? = some x := ⟨_, List.getElem?_eq_getElem (by rw [HH.out.2.2.2.1]; exact hlt)⟩
      obtain ⟨b1, o1, rfl, p1, p2, p3⟩ := (HH.out.1.on HT.out.1.gw) t x hx
      obtain ⟨op, xn, xk⟩ := x
      simp only at p1 p2 p3
      go_upto_region 7 with fail
      refine wp_asx (fun W3 hW3 => ?_)
      obtain ⟨ab, hab⟩ : ∃ ab, ab = wr.heap.size := ⟨_, rfl⟩
      obtain ⟨xb, hxb⟩ : ∃ xb, xb = ab + 1 := ⟨_, rfl⟩
      have hra : W3.heap[ab]? = some (.cells #[.int .i64 (t : Int)] 3 (0, 0)) := by
        rw [hW3, hab]
        rw [heap_alloc_old _ _ (by rw [World.size_alloc]; omega)]
        exact heap_alloc_new wr _
      have hrx : W3.heap[xb]? = some (.cells #[.int .i64 op, .int .i64 xn, .int .i64 xk] 56 (0, 0)) := by
        rw [hW3, hxb, hab]
        have := heap_alloc_new (wr.alloc (.cells #[.int .i64 (t : Int)] 3)) (.cells #[.int .i64 op, .int .i64 xn, .int .i64 xk] 56)
        rwa [World.size_alloc] at this
      have h3 : Lo w W3 rb g m ran := HT.out.1.on (by rw [hW3]; exact (World.grownBy_alloc wr _ none).trans (World.grownBy_alloc _ _ none))
      have hgl := gl HT.out.1.r2
      have hag : ab ≠ g := by omega
      have hl := HT.out.2.len.trans HH.out.2.2.2.1
      obtain ⟨r, hr⟩ : ∃ r, ran[t]? = some r := ⟨_, List.getElem?_eq_getElem (by rw [hl]; exact hlt)⟩
      have hle := HT.out.2.le t r hr
      have cr := cell_of_row W3 rb 0 _ _ _ h3.r1
      have ca := cell_of_row W3 ab 0 _ _ _ hra
      have cg : W3.cell? ⟨g, t, none⟩ = some (.int .i64 r) := by rw [cell_of_row W3 g t _ _ _ h3.r2]; simp [hr]
      have x0 := cell_of_row W3 xb 0 _ _ _ hrx
      have x1 := cell_of_row W3 xb 1 _ _ _ hrx
      have HL := Lib.hid HT.out.2
      have HX := Lib.hid (And.intro hx (And.intro hr (And.intro hl (And.intro hle (And.intro h3 (And.intro hra hag))))))
      have hb6 : 0 ≤ r ∧ r ≤ 60000 := by omega
      rw [← hab]
      rw [← hxb]
      clear HT hrx hra hW3 hab hxb h3 hgl hag hl hr hx p1 p2 p3
      by_cases h0 : r = 0
      · have e0 : (r == 0) = true := by rw [h0]; rfl
        have HN : Hid (Ex.Lng c (t + 1) most ran) := Lib.hid (HL.out.none (by rw [← h0]; exact HX.out.2.1))
        clear h0 hb6
        go_wp2
        exact ⟨⟨t + 1, most, ran, by omega, rfl, by go_num, Lib.hid ⟨HX.out.2.2.2.2.1, HN.out⟩⟩, by simp [intOf]; omega⟩
      · have e0 : (r == 0) = false := by rw [beq_eq_false_iff_ne]; exact h0
        by_cases h9 : op = 9
        · subst h9
          have HN : Hid (Ex.Lng c (t + 1) (max most r) ran) := Lib.hid (HL.out.end9 HX.out.2.1 HX.out.1 rfl)
          clear h0 hb6
          go_wp2
          exact ⟨⟨t + 1, max most r, ran, by omega, rfl, by go_num, Lib.hid ⟨HX.out.2.2.2.2.1, HN.out⟩⟩, by simp [intOf]; omega⟩
        · by_cases h7 : op = 7
          · subst h7
            have hnn := HL.out.nn HH.out.2.1 HX.out.2.1 h0 HX.out.1 (.inl rfl)
            obtain ⟨n, rfl⟩ : ∃ n : Nat, xn = n := ⟨xn.toNat, by simp only at hnn; omega⟩
            obtain ⟨q1, q2⟩ := HL.out.one HH.out.2.1 HX.out.2.1 h0 HX.out.1 (by simp) (t + 1 + n) (fun s => by rw [Ex.nxt7 rfl]; simp)
            have HC := Lib.hid (elead_any (n := n) hm1 HX.out.2.2.1 HX.out.2.2.2.2.1.r1 HX.out.2.2.2.2.2.1 HX.out.2.2.2.2.1.r2 HX.out.2.1 hb6 (by rw [← HX.out.2.2.1]; exact q1))
            have HN := Lib.hid q2
            clear q1 q2 hnn h0 hb6
            go_wp2_with (go_at_call 56; refine HC.out.mono ?_; rintro e W4 ⟨rfl, hg4, hk4⟩; have H4 := Lib.hid (HX.out.2.2.2.2.1.put hk4 hg4); clear hg4 hk4)
            exact ⟨⟨t + 1, most, _, by omega, rfl, by go_num, Lib.hid ⟨H4.out, HN.out⟩⟩, by simp [intOf]; omega⟩
          · by_cases h8 : op = 8
            · subst h8
              have hnn := HL.out.nn HH.out.2.1 HX.out.2.1 h0 HX.out.1 (.inr rfl)
              obtain ⟨n, rfl⟩ : ∃ n : Nat, xn = n := ⟨xn.toNat, by simp only at hnn; omega⟩
              obtain ⟨q1, q2, q3⟩ := HL.out.two HH.out.2.1 HX.out.2.1 h0 HX.out.1 rfl
              simp only [Int.toNat_natCast] at q1 q3
              have HC := Lib.hid (elead_any (n := n) hm1 HX.out.2.2.1 HX.out.2.2.2.2.1.r1 HX.out.2.2.2.2.2.1 HX.out.2.2.2.2.1.r2 HX.out.2.1 hb6 (by rw [← HX.out.2.2.1]; exact q1))
              have HC2 := Lib.hid (fun V (hL : Lo w V rb g m (Ex.put ran (t + 1 + n) (r + 1))) (ha : V.heap[ab]? = some (.cells #[.int .i64 (t : Int)] 3 (0, 0))) => elead0_any hm1 ((Ex.put_len ..).trans HX.out.2.2.1) hL.r1 ha hL.r2 ((Ex.put_ne _ _ (by omega)).trans HX.out.2.1) hb6 (by rw [← HX.out.2.2.1]; exact q2))
              have HN := Lib.hid q3
              clear q1 q2 q3 hnn h0 hb6
              go_wp2_with (first
                | (go_at_call 56; have q := H4; refine (HC2.out _ H4.out.1 H4.out.2).mono ?_; rintro e W5 ⟨rfl, hg5, hk5⟩; have H5 := Lib.hid (H4.out.1.put hk5 hg5); clear hg5 hk5)
                | (go_at_call 56; refine HC.out.mono ?_; rintro e W4 ⟨rfl, hg4, hk4⟩; have H4 := Lib.hid (And.intro (HX.out.2.2.2.2.1.put hk4 hg4) (hk4.slot HX.out.2.2.2.2.2.1 HX.out.2.2.2.2.2.2)); clear hg4 hk4))
              exact ⟨⟨t + 1, most, _, by omega, rfl, by go_num, Lib.hid ⟨H5.out, HN.out⟩⟩, by simp [intOf]; omega⟩
            · have e9 : (op == 9) = false := by rw [beq_eq_false_iff_ne]; exact h9
              have e7 : (op == 7) = false := by rw [beq_eq_false_iff_ne]; exact h7
              have e8 : (op == 8) = false := by rw [beq_eq_false_iff_ne]; exact h8
              obtain ⟨q1, q2⟩ := HL.out.one HH.out.2.1 HX.out.2.1 h0 HX.out.1 h9 (t + 1) (fun s => Ex.nxt_else h7 h8 s)
              have HC := Lib.hid (elead0_any hm1 HX.out.2.2.1 HX.out.2.2.2.2.1.r1 HX.out.2.2.2.2.2.1 HX.out.2.2.2.2.1.r2 HX.out.2.1 hb6 (by rw [← HX.out.2.2.1]; exact q1))
              have HN := Lib.hid q2
              clear q1 q2 h0 hb6 h7 h8 h9
              go_wp2_with (go_at_call 56; refine HC.out.mono ?_; rintro e W4 ⟨rfl, hg4, hk4⟩; have H4 := Lib.hid (HX.out.2.2.2.2.1.put hk4 hg4); clear hg4 hk4)
              exact ⟨⟨t + 1, most, _, by omega, rfl, by go_num, Lib.hid ⟨H4.out, HN.out⟩⟩, by simp [intOf]; omega⟩
    · obtain rfl : t = m := by omega
      have HF : Hid (Ex.Longest c most ∧ w.grownBy wr none) := Lib.hid ⟨Ex.Lng.all (by rw [HH.out.2.2.2.1]; exact HT.out.2), HT.out.1.gw⟩
      clear HT
      go_wp2
      go_ret
      exact ⟨most, rfl, HF.out⟩
end Go.Proofs.YtlppifnepckpiaaGreat
