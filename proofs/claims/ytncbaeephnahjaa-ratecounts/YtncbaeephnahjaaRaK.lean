/- rate.basePeriod. -/
import Derived.Test.YtncbaeephnahjaaRaI
namespace Rat
def okP (x : Int × Int) : Bool := decide (1 ≤ x.1) && decide (x.1 ≤ 64) && decide (0 ≤ x.2) && decide (x.2 < x.1)
def baseF : List (Int × Int) → Nat → Option Nat
  | [], b => some b
  | x :: r, b => if Nat.lcm b x.1.toNat > 5000 then none else baseF r (Nat.lcm b x.1.toNat)
def baseM (l : List (Int × Int)) : Nat × Nat :=
  if l.all okP = false then (0, 1) else if l.length > 64 then (0, 2) else match baseF l 1 with
  | none => (0, 2)
  | some b => (b, 0)
end Rat
namespace Go.Proofs.Ytncbaeephnahjaa
open Go.RowKit Go.Maps Go.WideMaps Go.Shelf
open Rat (okP baseF baseM)

theorem rb {b c : Bool} (h : b = c) : Ending.returned (.bool b) = Ending.returned (.bool c) := by rw [h]
theorem rightPair_any (x : Int × Int) (w : World) : Calls Try.prog 20 #[.agg #[.int .i64 x.1, .int .i64 x.2]] w fun e w' => e = .returned (.bool (okP x)) ∧ w.grownBy w' none := by
  obtain ⟨p, o⟩ := x
  have hok : okP (p, o) = (decide (1 ≤ p) && decide (p ≤ 64) && decide (0 ≤ o) && decide (o < p)) := rfl
  rw [hok]
  clear hok
  dsimp only
  go_enter Try.func20, Try.ntmps20
  go_wp2
  go_region
  go_wp2
  all_goals go_ret
  all_goals refine ⟨rb ?_, gaD _ _⟩
  all_goals rw [Bool.eq_iff_iff]
  all_goals simp
  all_goals omega

theorem gcd_any (a b : Nat) (ha : a ≤ 1000000) (hb : b ≤ 1000000) (w : World) : Calls Try.prog 21 #[.int .i64 (a : Int), .int .i64 (b : Int)] w fun e w' => e = .returned (.int .i64 ((Nat.gcd a b : Nat) : Int)) ∧ w.grownBy w' none := by
  go_enter Try.func21, Try.ntmps21
  go_wp2
  go_loopw [0, 1] (fun av bv wr => ∃ c d : Nat, av = .int .i64 (c : Int) ∧ bv = .int .i64 (d : Int) ∧ c ≤ 1000000 ∧ d ≤ 1000000 ∧ Hid (Nat.gcd c d = Nat.gcd a b ∧ w.grownBy wr none)) (fun _ bv _ => (intOf bv).toNat)
  case atStart => exact ⟨a, b, rfl, rfl, ha, hb, Lib.hid ⟨rfl, World.grownBy.refl _ _⟩⟩
  case round =>
    obtain ⟨c, d, rfl, rfl, hc, hd, HG⟩ := hrel
    by_cases h0 : d = 0
    · subst h0
      go_wp2
      go_ret
      obtain ⟨h1, h2⟩ := HG.out
      rw [Nat.gcd_zero_right] at h1
      exact ⟨by rw [← h1]; rfl, h2⟩
    · have h1 : 0 < d := by omega
      have hm : c % d < d := Nat.mod_lt _ h1
      go_wp2
      go_region
      go_wp2
      refine ⟨⟨d, c % d, rfl, by simp, hd, by omega, Lib.hid ⟨?_, gtrans HG.out.2 (gdrew _ _)⟩⟩, by simp [intOf]; omega⟩
      rw [Nat.gcd_comm, ← Nat.gcd_rec, Nat.gcd_comm]
      exact HG.out.1

/-- pairs of whole numbers in memory -/
def PairsI (A : World) (la : Option Addr) (l : List (Int × Int)) : Prop := ∀ i x, l[i]? = some x → ∃ g o, la = some ⟨g, o, none⟩ ∧ A.cell? ⟨g, o + i * 2, none⟩ = some (.int .i64 x.1) ∧ A.cell? ⟨g, o + i * 2 + 1, none⟩ = some (.int .i64 x.2)
theorem PairsI.kept {A B : World} {la : Option Addr} {l : List (Int × Int)} (h : PairsI A la l) (hg : A.grownBy B none) : PairsI B la l := fun i x hx => by
  obtain ⟨g, o, h1, h2, h3⟩ := h i x hx
  exact ⟨g, o, h1, hg.cell h2 (by simp), hg.cell h3 (by simp)⟩
theorem take_all {l : List (Int × Int)} {t : Nat} {x : Int × Int} (hx : l[t]? = some x) (h : (l.take t).all okP = true) (h1 : okP x = true) : (l.take (t + 1)).all okP = true := by
  rw [List.take_add_one, hx, List.all_append, h]
  simp [h1]
theorem c1Drew {W V : World} {p : Addr} {t : Value} (h : V.cell? p = some t ∧ W.grownBy V none) : V.drew.cell? p = some t ∧ W.grownBy V.drew none := ⟨h.1, gtrans h.2 (gdrew _ _)⟩
theorem c1On {W V V' : World} {p : Addr} {t : Value} (h : V.cell? p = some t ∧ W.grownBy V none) (g : V.grownBy V' none) : V'.cell? p = some t ∧ W.grownBy V' none := ⟨g.cell h.1 (by simp), gtrans h.2 g⟩
theorem w64q {q : Nat} (h : q ≤ 1000000000) : IntKind.i64.wrap (q : Int) = (q : Int) ∧ wrap64 (q : Int) = (q : Int) :=
  ⟨IntWalk.i64_in _ ⟨by omega, by omega⟩, by unfold wrap64; omega⟩
theorem lcm_eq (b p : Nat) : b * (p / Nat.gcd b p) = Nat.lcm b p := (Nat.mul_div_assoc b (Nat.gcd_dvd_right b p)).symm

set_option maxRecDepth 100000 in
set_option maxHeartbeats 2000000 in
theorem base_any (l : List (Int × Int)) (la : Option Addr) (lc : Nat) (w : World) (h : PairsI w la l) (hn : l.length ≤ 1000) :
    Calls Try.prog 14 #[.slice la l.length lc] w fun e w' => e = .returned (.tuple #[.int .i64 ((baseM l).1 : Int), .int .i64 ((baseM l).2 : Int)]) ∧ w.grownBy w' none := by
  obtain ⟨L, hL⟩ : ∃ L, L = l.length := ⟨_, rfl⟩
  have HB : Hid (∃ B, B = baseM l) := Lib.hid ⟨_, rfl⟩
  obtain ⟨B, hB⟩ := HB.out
  rw [← hB, ← hL]
  rw [← hL] at hn
  have HBM := Lib.hid hB
  have HL := Lib.hid hL
  have HP := Lib.hid h
  clear HB hB hL h
  go_enter Try.func14, Try.ntmps14
  go_wp2
  go_loopw [11] (fun iv wr => ∃ t : Nat, t ≤ L ∧ iv = .int .i64 (t : Int) ∧ Hid ((l.take t).all okP = true ∧ w.grownBy wr none)) (fun iv _ => L - (intOf iv).toNat)
  case atStart => exact ⟨0, Nat.zero_le _, rfl, Lib.hid ⟨by simp, World.grownBy.refl _ _⟩⟩
  case round =>
    obtain ⟨t, ht, rfl, HG⟩ := hrel
    obtain ⟨hall, hgr⟩ := HG.out
    clear HG
    by_cases hlt : t < L
    · obtain ⟨x, hx⟩ : ∃ x, l[t]? = some x := ⟨_, List.getElem?_eq_getElem (by rw [← HL.out]; exact hlt)⟩
      obtain ⟨g, o, rfl, hp1, hp2⟩ := HP.out t x hx
      have u0 := hgr.cell hp1 (by simp)
      have u1 := hgr.cell hp2 (by simp)
      have hrp := rightPair_any x
      have HF := Lib.hid (And.intro hall (And.intro hgr hx))
      clear hall hgr hx hp1 hp2
      obtain ⟨p, q⟩ := x
      cases hok : okP (p, q) with
      | true =>
        rw [hok] at hrp
        have HOK := Lib.hid hok
        clear hok
        go_wp2_with (go_at_call 20; refine (hrp _).mono ?_; clear hrp; rintro e w2 ⟨rfl, hg2⟩)
        exact ⟨⟨t + 1, by omega, by go_num, Lib.hid ⟨take_all HF.out.2.2 HF.out.1 HOK.out, (HF.out.2.1.trans (World.grownBy_alloc _ _ none)).trans hg2⟩⟩, by simp [intOf]; omega⟩
      | false =>
        rw [hok] at hrp
        have HBe : Hid (B = (0, 1)) := Lib.hid (by
          rw [HBM.out, baseM, if_pos]
          rw [List.all_eq_false]
          exact ⟨(p, q), List.mem_of_getElem? HF.out.2.2, by simp [hok]⟩)
        clear hok
        go_wp2_with (go_at_call 20; refine (hrp _).mono ?_; clear hrp; rintro e w2 ⟨rfl, hg2⟩)
        go_ret2
        rw [HBe.out]
        exact ⟨rfl, (HF.out.2.1.trans (World.grownBy_alloc _ _ none)).trans hg2⟩
    · have e : t = L := by omega
      subst e
      rw [List.take_of_length_le (by rw [HL.out]; exact Nat.le_refl _)] at hall
      have HA := Lib.hid hall
      have HGR := Lib.hid hgr
      clear hall hgr hlt ht
      by_cases h64 : 64 < t
      · have HBe : Hid (B = (0, 2)) := Lib.hid (by rw [HBM.out, baseM, if_neg (by rw [HA.out]; simp), if_pos (by rw [← HL.out]; exact h64)])
        go_wp2
        go_ret2
        rw [HBe.out]
        exact ⟨rfl, HGR.out⟩
      · have HBe : Hid (B = match baseF l 1 with | none => (0, 2) | some b => (b, 0)) := Lib.hid (by rw [HBM.out, baseM, if_neg (by rw [HA.out]; simp), if_neg (by rw [← HL.out]; exact h64)])
        go_wp2
        go_loopw [6, 24] (fun bv iv V => ∃ t' b : Nat, t' ≤ t ∧ iv = .int .i64 (t' : Int) ∧ bv = .int .i64 (b : Int) ∧ 1 ≤ b ∧ b ≤ 5000 ∧ Hid (baseF l 1 = baseF (l.drop t') b ∧ w.grownBy V none)) (fun _ iv _ => t - (intOf iv).toNat)
        case atStart => exact ⟨0, 1, Nat.zero_le _, rfl, rfl, by omega, by omega, Lib.hid ⟨by simp, HGR.out⟩⟩
        case round =>
          obtain ⟨k, b, hk, rfl, rfl, hb1, hb2, HG⟩ := hrel
          obtain ⟨hbf, hgr⟩ := HG.out
          clear HG
          by_cases hlt : k < t
          · obtain ⟨x, hx⟩ : ∃ x, l[k]? = some x := ⟨_, List.getElem?_eq_getElem (by rw [← HL.out]; exact hlt)⟩
            obtain ⟨g, o, rfl, hp1, hp2⟩ := HP.out k x hx
            have u0 := hgr.cell hp1 (by simp)
            have u1 := hgr.cell hp2 (by simp)
            have hok : okP x = true := List.all_eq_true.1 HA.out x (List.mem_of_getElem? hx)
            obtain ⟨xp, xo⟩ := x
            simp only [okP, Bool.and_eq_true, decide_eq_true_eq] at hok
            obtain ⟨⟨⟨h1, h2⟩, h3⟩, h4⟩ := hok
            obtain ⟨p, rfl⟩ : ∃ p : Nat, xp = (p : Int) := ⟨xp.toNat, by omega⟩
            have hp0 : 1 ≤ p := by omega
            have hp64 : p ≤ 64 := by omega
            rw [List.drop_eq_getElem?_toList_append, hx] at hbf
            simp only [Option.toList_some, List.singleton_append, baseF, Int.toNat_natCast] at hbf
            have hgc := gcd_any b p (by omega) (by omega)
            have hg0 : 0 < Nat.gcd b p := Nat.gcd_pos_of_pos_left _ (by omega)
            have hgp : Nat.gcd b p ≤ p := Nat.le_of_dvd (by omega) (Nat.gcd_dvd_right b p)
            have hq0 : p / Nat.gcd b p ≤ 64 := Nat.le_trans (Nat.div_le_self _ _) hp64
            obtain ⟨G, hG⟩ : ∃ G, G = Nat.gcd b p := ⟨_, rfl⟩
            obtain ⟨q, hq⟩ : ∃ q, q = p / G := ⟨_, rfl⟩
            obtain ⟨M, hM⟩ : ∃ M, M = b * q := ⟨_, rfl⟩
            have hM2 : M = Nat.lcm b p := by rw [hM, hq, hG, lcm_eq]
            rw [← hM2] at hbf
            have hMb : M ≤ 5000 * 64 := by rw [hM]; exact Nat.mul_le_mul hb2 (by rw [hq, hG]; exact hq0)
            rw [← hG] at hgc hg0 hgp
            have eq1 : (p : Int) / (G : Int) = (q : Int) := by rw [hq]; simp
            have eq2 : (b : Int) * (q : Int) = (M : Int) := by rw [hM]; simp
            have hq64 : q ≤ 64 := by rw [hq, hG]; exact hq0
            have eq3 : wrap64 (q : Int) = (q : Int) := (w64q (Nat.le_trans hq64 (by decide))).2
            have eq5 : IntKind.i64.wrap (q : Int) = (q : Int) := (w64q (Nat.le_trans hq64 (by decide))).1
            have eq4 : IntKind.i64.wrap (M : Int) = (M : Int) := (w64q (Nat.le_trans hMb (by decide))).1
            have hG1 : ((G : Int) == 0) = false := by simp; omega
            have hG2 : ¬ G = 0 := by omega
            have hG3 : ¬ (G : Int) = 0 := by omega
            have hM1 : 1 ≤ M := by rw [hM2]; exact Nat.lcm_pos (by omega) (by omega)
            have HF := Lib.hid (And.intro hbf hgr)
            clear hbf hgr hx hp1 hp2 h1 h2 h3 h4 hG hq hM hM2 hq0
            go_wp2
            obtain ⟨W1, hW1⟩ : ∃ W1, W1 = wr.alloc (.cells #[.int .i64 (p : Int), .int .i64 xo] 35) := ⟨_, rfl⟩
            have hS : W1.cell? ⟨wr.heap.size, 0, none⟩ = some (.int .i64 (p : Int)) ∧ W1.grownBy W1 none := by rw [hW1]; exact ⟨cell_of_row _ _ 0 _ _ _ (heap_alloc_new wr _), World.grownBy.refl _ _⟩
            rw [← hW1]
            have HW1 : Hid (w.grownBy W1 none) := Lib.hid (by rw [hW1]; exact gtrans HF.out.2 (World.grownBy_alloc _ _ none))
            clear hW1
            by_cases hM5 : M ≤ 5000
            · have HN : Hid (baseF l 1 = baseF (l.drop (k + 1)) M) := Lib.hid (by rw [HF.out.1, if_neg (by omega)])
              go_region_held3 (fun V => V.cell? ⟨wr.heap.size, 0, none⟩ = some (.int .i64 (p : Int)) ∧ W1.grownBy V none) (first | exact hS | exact c1Drew hS)
                (first | (go_at_call 21; refine (hgc _).mono ?_; rintro e w4 ⟨rfl, hg4⟩; have hS := c1On (by assumption) hg4; clear hg4))
              go_wp2
              exact ⟨⟨k + 1, M, by omega, by go_num, rfl, hM1, hM5, Lib.hid ⟨HN.out, gtrans HW1.out hS.2⟩⟩, by simp [intOf]; omega⟩
            · have HN : Hid (B = (0, 2)) := Lib.hid (by rw [HBe.out, HF.out.1, if_pos (by omega)])
              go_region_held3 (fun V => V.cell? ⟨wr.heap.size, 0, none⟩ = some (.int .i64 (p : Int)) ∧ W1.grownBy V none) (first | exact hS | exact c1Drew hS)
                (first | (go_at_call 21; refine (hgc _).mono ?_; rintro e w4 ⟨rfl, hg4⟩; have hS := c1On (by assumption) hg4; clear hg4))
              go_wp2
              go_ret2
              rw [HN.out]
              exact ⟨rfl, gtrans HW1.out hS.2⟩
          · have e : k = t := by omega
            subst e
            rw [List.drop_of_length_le (by rw [HL.out]; exact Nat.le_refl _)] at hbf
            have HN : Hid (B = (b, 0)) := Lib.hid (by rw [HBe.out, hbf]; rfl)
            have HR := Lib.hid hgr
            clear hbf hgr
            go_wp2
            go_ret2
            rw [HN.out]
            exact ⟨rfl, HR.out⟩
end Go.Proofs.Ytncbaeephnahjaa
