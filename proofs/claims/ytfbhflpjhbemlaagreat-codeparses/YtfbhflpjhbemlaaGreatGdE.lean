/- Stage 19: the document's own reader: list. -/
import Derived.Test.YtfbhflpjhbemlaaGreatGdD
import Derived.Test.YtfbhflpjhbemlaaGreatJnH
namespace Go.Proofs.YtfbhflpjhbemlaaGreat
open Go.RowKit Go.Maps Go.WideMaps

theorem gowns_on {w w' : World} {B : Nat} {T : TypeId} {z n : Nat} {v : Value} {xs : List Value} (h : w.ownsRow B T z v n xs) (hb : ∀ k, v.ownBlock = some k → w'.heap[k]? = w.heap[k]?) : w'.ownsRow B T z v n xs := by
  refine ⟨h.1, h.2.imp id ?_⟩
  rintro ⟨g, cap, cur, rfl, h1, h2, h3⟩
  exact ⟨g, cap, cur, rfl, h1, (hb g rfl).trans h2, h3⟩
/-- numbers, one by one -/
theorem Cd.rl_64 : ∀ (k : Nat) (l : List UInt8), ∀ n ∈ (Cd.rl k l).1, Cd.I64 n
  | 0, _, n, h => by cases h
  | k + 1, l, n, h => by
    rw [Cd.rl] at h
    split at h
    · rw [List.mem_singleton.1 h]; exact ⟨by omega, by omega⟩
    · rcases List.mem_cons.1 h with rfl | h
      · exact Cd.rn_64 10 0 0 l
      · exact Cd.rl_64 k _ n h
theorem Cd.rl_len : ∀ (k : Nat) (l : List UInt8), (Cd.rl k l).1.length ≤ l.length + 1
  | 0, _ => by simp [Cd.rl]
  | k + 1, l => by
    rw [Cd.rl]
    split
    · simp
    · rename_i h
      have h1 := Cd.rn_lt 10 0 0 l (by simpa using h)
      have h2 := Cd.rl_len k (Cd.rn 10 0 0 l).2.1
      simp
      omega
theorem Cd.rn_bad : ∀ (f i z : Nat) (l : List UInt8), (Cd.rn f i z l).2.2 = true → (Cd.rn f i z l).1 = 0
  | 0, _, _, _, _ => rfl
  | _ + 1, _, _, [], _ => rfl
  | f + 1, i, z, c :: r, h => by
    rw [Cd.rn] at h ⊢
    split
    · rename_i hc
      rw [if_pos hc] at h
      cases h
    · rename_i hc
      rw [if_neg hc] at h
      exact Cd.rn_bad f (i + 1) _ r h
theorem kpov {X : List Nat} {a b c : World} {r : Option Nat} (h : Kp X a b) (g : b.grownBy c r) (hr : ∀ k, r = some k → a.heap.size ≤ k) : Kp X a c :=
  ⟨g.os.trans h.os, g.tape.trans h.tape, g.output.trans h.output, Nat.le_trans h.size g.size, fun k hk hx => (g.block k (Nat.lt_of_lt_of_le hk h.size) (fun e => by have := hr k e.symm; omega)).trans (h.block k hk hx)⟩
/-- the loop: t are read, the rest is still to be -/
structure RlI (w wr : World) (rb : Nat) (a : Option Addr) (cp : Nat) (b : List UInt8) (T : List Int × List UInt8 × Bool) (k : Nat) (acc : List Int) (q : Nat) (bad : Bool) (v : Value) : Prop where
  kp : Kp [rb] w wr
  rx : Rx wr rb a cp b q bad
  own : wr.ownsRow w.heap.size 3 1 v acc.length (acc.map (Value.int .i64))
  go : if bad = true then T = (acc, b.drop q, true) else T = (acc ++ (Cd.rl (k - acc.length) (b.drop q)).1, (Cd.rl (k - acc.length) (b.drop q)).2)
  ln : acc.length ≤ k ∧ acc.length ≤ q + 1 ∧ (bad = false → acc.length ≤ q)
def RlP (w : World) (rb : Nat) (a : Option Addr) (cp : Nat) (b : List UInt8) (T : List Int × List UInt8 × Bool) (e : Ending) (w' : World) : Prop := Kp [rb] w w' ∧ ∃ v, e = .returned v ∧ w'.ownsRow w.heap.size 3 1 v T.1.length (T.1.map (Value.int .i64)) ∧ ∃ q, Rx w' rb a cp b q T.2.2 ∧ b.drop q = T.2.1
set_option maxHeartbeats 4000000 in
set_option maxRecDepth 100000 in
theorem rlist_any (w : World) (rb : Nat) (a : Option Addr) (cp : Nat) (b : List UInt8) (p : Nat) (n : Int) (hn : Cd.I64 n) (h : Rx w rb a cp b p false) (hl : b.length ≤ 4000000) :
    Calls Tryz.prog 13 #[.pointer (some ⟨rb, 0, none⟩), .int .i64 n] w (RlP w rb a cp b (Cd.rl n.toNat (b.drop p))) := by
  obtain ⟨T, hT⟩ : ∃ T, T = Cd.rl n.toNat (b.drop p) := ⟨_, rfl⟩
  rw [← hT]
  have hrb : rb < w.heap.size := gl h.1
  have HGA : Hid (∀ g o, a = some ⟨g, o, none⟩ → b ≠ [] → g < w.heap.size) := Lib.hid (fun g o e hne => by
    obtain ⟨x, t, hb⟩ : ∃ x t, b = x :: t := by cases b with | nil => exact absurd rfl hne | cons x t => exact ⟨x, t, rfl⟩
    obtain ⟨g2, o2, e2, hc⟩ := h.2.2.1 0 x (by rw [hb]; rfl)
    rw [e] at e2
    cases e2
    exact lt_of_cell? hc)
  have HS : Hid (RlI w w rb a cp b T n.toNat [] p false (.slice none 0 0)) := Lib.hid ⟨Kp.refl _ _, h, World.ownsRow_nil _ _ _ _, by rw [if_neg (by simp)]; exact hT, by simp, by simp⟩
  have hn2 := hn.2
  clear h hT hn
  go_enter Tryz.func13, Tryz.ntmps13
  go_wp2
  go_loopw [5, 6] (fun vv iv wr => ∃ (acc : List Int) (q : Nat) (bad : Bool), iv = .int .i64 (acc.length : Int) ∧ Hid (RlI w wr rb a cp b T n.toNat acc q bad vv)) (fun _ iv _ => b.length + 2 - (intOf iv).toNat)
  case atStart => exact ⟨[], p, false, rfl, HS⟩
  case round =>
    obtain ⟨acc, q, bad, rfl, HT⟩ := hrel
    have hrx := HT.out.rx
    have c2 := hrx.c2
    obtain ⟨K, hK⟩ : ∃ K, K = acc.length := ⟨_, rfl⟩
    rw [← hK]
    have hKq : K ≤ q + 1 := by rw [hK]; exact HT.out.ln.2.1
    have hq := hrx.2.1
    by_cases hlt : (K : Int) < n
    · have e1 : decide ((K : Int) < n) = true := by simpa using hlt
      cases bad with
      | true =>
        have hgo := HT.out.go
        rw [if_pos rfl] at hgo
        obtain ⟨va, vc, hv⟩ := NumsAt.own HT.out.own |>.imp fun _ h => h.imp fun _ h => h.1
        subst hv
        have HX := Lib.hid (And.intro hrx hgo)
        clear hrx hgo hlt hK
        go_wp2
        go_ret
        rw [HX.out.2]
        exact ⟨HT.out.kp, _, rfl, HT.out.own, q, HX.out.1, rfl⟩
      | false =>
        have hnum := rnum_any wr rb a cp b q false hrx hl
        unfold RnP at hnum
        obtain ⟨N, hN⟩ : ∃ N, N = Cd.rn 10 0 0 (b.drop q) := ⟨_, rfl⟩
        rw [← hN, Bool.false_or] at hnum
        have hgo := HT.out.go
        rw [if_neg (by simp)] at hgo
        have hlen := HT.out.own.1
        obtain ⟨it, hit, hz, hsz, hby⟩ := info_parts info_int
        have HX := Lib.hid (And.intro hnum (And.intro hN (And.intro hgo hK)))
        have HQ := Lib.hid (And.intro hrx (And.intro hKq hq))
        have b63 : K + 1 ≤ maxLen := by unfold maxLen; omega
        have bby : (K + 1) * 8 ≤ 140737488355328 := by omega
        clear hnum hN hgo hlen hrx hKq hq
        go_wp2_with (first
          | (go_at_call 14; refine HX.out.1.mono ?_; rintro e w2 ⟨rfl, hk2, q2, hr2, hd2⟩; have ho2 := gowns_on HT.out.own (fun k e => hk2.block k (HT.out.own.lt k e).2 (by simp; have := (HT.out.own.lt k e).1; omega)); have H2 := Lib.hid (And.intro hk2 (And.intro hr2 (And.intro hd2 ho2))); clear hk2 hr2 hd2 ho2)
          | (at_builtin; refine wpList_append_own _ rfl _ _ 24 rfl w.heap.size 3 it _ 1 8 Tryz.underlying24 hit hz hsz hby rfl (by decide) u5 K (acc.map (Value.int .i64)) rfl (by rw [HX.out.2.2.2]; exact H2.out.2.2.2.alloc _) ⟨w2.heap.size, 0, none⟩ 1 1 [.int .i64 N.1] rfl rfl (fun j u hu => by rw [addr_at, Nat.zero_add]; cases j with | zero => simp at hu; subst hu; exact cell_of_row _ _ 0 _ _ _ (heap_alloc_new w2 _) | succ j => simp at hu) (fun u hu => by rw [List.mem_singleton.1 hu]; rfl) b63 bby (by have := HT.out.kp.size; have := H2.out.1.size; rw [World.size_alloc]; omega) ?_; intro v' w4 ho4 hg4 _; have H4 := Lib.hid (And.intro ho4 hg4); clear ho4 hg4))
        have hlow : ∀ k, u5.ownBlock = some k → w.heap.size ≤ k := fun k e => (HT.out.own.lt k e).1
        have hk4 : Kp [rb] w w4 := kpov ((HT.out.kp.trans H2.out.1).trans (Kp.of0 (World.grownBy_alloc w2 _ none) _)) H4.out.2 hlow
        have hr4 : Rx w4 rb (a) cp b q2 N.2.2 := (H2.out.2.1.on (World.grownBy_alloc w2 (.cells #[.int .i64 N.1] 3) none)).kp (X := u5.ownBlock.toList) (Kp.of H4.out.2 _ (fun k e _ => by rw [e]; simp)) (fun hx => by have := hlow rb (by simpa using hx); omega) (fun g o e hne hx => by have := hlow g (by simpa using hx); have := HGA.out g o e hne; omega)
        have hq2 := hr4.2.1
        have hd2 := H2.out.2.2.1
        have hNl := Cd.rn_len 10 0 0 (b.drop q)
        have hdl := congrArg List.length hd2
        rw [HX.out.2.1, List.length_drop] at hdl
        rw [List.length_drop] at hNl
        have hKq := HQ.out.2.1
        have hq := HQ.out.2.2
        have hKk : K + 1 ≤ n.toNat := by omega
        have hln3 := HT.out.ln.2.2 rfl
        rw [← HX.out.2.2.2] at hln3
        have hgo := HX.out.2.2.1
        rw [← HX.out.2.2.2] at hgo
        obtain ⟨j, hj⟩ : ∃ j, n.toNat - K = j + 1 := ⟨n.toNat - K - 1, by omega⟩
        rw [hj, Cd.rl, ← HX.out.2.1] at hgo
        have hbl : (acc ++ [N.1]).length = K + 1 := by rw [List.length_append, List.length_singleton, ← HX.out.2.2.2]
        refine ⟨⟨acc ++ [N.1], q2, N.2.2, by rw [hbl]; go_num, Lib.hid ⟨hk4, hr4, by rw [hbl, List.map_append]; exact H4.out.1, ?_, ?_⟩⟩, ?_⟩
        · cases hb2 : N.2.2 with
          | true =>
            rw [if_pos rfl]
            rw [hb2, if_pos rfl] at hgo
            have h0 := Cd.rn_bad 10 0 0 (b.drop q) (by rw [← HX.out.2.1]; exact hb2)
            rw [← HX.out.2.1] at h0
            rw [hgo, h0, hd2]
          | false =>
            rw [if_neg (by simp)]
            rw [hb2, if_neg (by simp)] at hgo
            rw [hbl, show n.toNat - (K + 1) = j by omega, hd2, hgo]
            simp
        · rw [hbl]
          refine ⟨hKk, by omega, fun hb2 => ?_⟩
          have h1 := Cd.rn_lt 10 0 0 (b.drop q) (by rw [← HX.out.2.1]; exact hb2)
          rw [List.length_drop] at h1
          omega
        · have e9 : (intOf (Value.int .i64 ((K : Int) + 1))).toNat = K + 1 := by simp only [intOf]; omega
          have e10 : (intOf (Value.int .i64 (K : Int))).toNat = K := by simp [intOf]
          rw [← HX.out.2.2.2]
          show _ - (intOf (Value.int .i64 ((K : Int) + 1))).toNat < _ - (intOf (Value.int .i64 (K : Int))).toNat
          rw [e9, e10]
          omega
    · have e1 : decide ((K : Int) < n) = false := by simpa using hlt
      have hgo := HT.out.go
      have h0 : n.toNat - acc.length = 0 := by omega
      have hgo2 : T = (acc, b.drop q, bad) := by
        cases bad with
        | true => rw [if_pos rfl] at hgo; exact hgo
        | false => rw [if_neg (by simp), h0, Cd.rl, List.append_nil] at hgo; exact hgo
      have HX := Lib.hid (And.intro hrx hgo2)
      clear hrx hgo hgo2 hlt hK h0
      go_wp2
      go_ret
      rw [HX.out.2]
      exact ⟨HT.out.kp, _, rfl, HT.out.own, q, HX.out.1, rfl⟩
end Go.Proofs.YtfbhflpjhbemlaaGreat
