/- My texts TlF TlB TlD, joined. -/
import Derived.Test.YtbbamgjdnibldaaGreatMhM
import Derived.KernelRfl
set_option linter.unusedVariables false
set_option linter.unusedSimpArgs false
set_option linter.unnecessarySimpa false
set_option linter.unusedSectionVars false
set_option maxHeartbeats 12800000
set_option maxRecDepth 20000
namespace Go.Proofs.YtbbamgjdnibldaaGreat.Fam
open Go.RowKit
def kn (a : Nat) : List UInt8 := match a with
 | 0 => [98, 111, 111, 108]
 | 1 => [105, 56]
 | 2 => [105, 49, 54]
 | 3 => [105, 51, 50]
 | 4 => [105, 54, 52]
 | 5 => [117, 56]
 | 6 => [117, 49, 54]
 | 7 => [117, 51, 50]
 | _ => [117, 54, 52]
def ops : List (List UInt8) := [[43], [45], [42], [47], [109, 111, 100], [38], [124], [94], [61, 62], [60, 60], [62, 62], [61], [60, 62], [60], [60, 61], [62], [62, 61]]
def opText (op a c : Nat) : List UInt8 := [110, 111, 100, 101, 32, 102, 40, 120, 58, 32] ++ kn a ++ [59, 32, 122, 58, 32] ++ kn c ++ [41, 32, 114, 101, 116, 117, 114, 110, 115, 32, 40, 121, 58, 32] ++ (if 11 ≤ op ∨ op = 8 then kn 0 else kn a) ++ [41, 32, 108, 101, 116, 32, 121, 32, 61, 32, 120, 32] ++ ops.getD op [] ++ [32, 122, 59, 32, 116, 101, 108]
def fits (op a c : Nat) : Bool := a == c && (if a = 0 then (decide (5 ≤ op) && decide (op ≤ 8)) || op == 11 || op == 12 else op != 8)
def okOp (op a c : Nat) : Bool := Ty.okT (opText op a c) (if fits op a c then 0 else 22)
def okOps (op : Nat) : Bool := (List.range 9).all fun a => (List.range 9).all fun c => okOp op a c
def dg (i : Nat) : UInt8 := UInt8.ofNat (48 + i)
def ds (n : Nat) : List UInt8 := if n < 10 then [dg n] else [dg (n / 10), dg (n % 10)]
def arText (n at_ : Nat) : List UInt8 := [110, 111, 100, 101, 32, 102, 40, 41, 32, 114, 101, 116, 117, 114, 110, 115, 32, 40, 121, 58, 32, 105, 56, 41, 32, 108, 101, 116, 32, 121, 32, 61, 32, 114, 101, 112, 40, 49, 105, 56, 44, 32] ++ ds n ++ [41, 91] ++ ds at_ ++ [93, 59, 32, 116, 101, 108]
def maText (n m : Nat) : List UInt8 := [110, 111, 100, 101, 32, 103, 40, 97, 44, 32, 98, 58, 32, 105, 56, 41, 32, 114, 101, 116, 117, 114, 110, 115, 32, 40, 99, 58, 32, 105, 56, 41, 32, 108, 101, 116, 32, 99, 32, 61, 32, 97, 32, 43, 32, 98, 59, 32, 116, 101, 108, 32, 110, 111, 100, 101, 32, 102, 40, 41, 32, 114, 101, 116, 117, 114, 110, 115, 32, 40, 121, 58, 32, 105, 56, 94] ++ ds n ++ [41, 32, 108, 101, 116, 32, 121, 32, 61, 32, 109, 97, 112, 40, 103, 44, 32, 114, 101, 112, 40, 49, 105, 56, 44, 32] ++ ds n ++ [41, 44, 32, 114, 101, 112, 40, 50, 105, 56, 44, 32] ++ ds m ++ [41, 41, 59, 32, 116, 101, 108]
def inText (n : Nat) : List UInt8 := [110, 111, 100, 101, 32, 102, 40, 120, 58, 32, 105, 56, 94] ++ ds n ++ [41, 32, 114, 101, 116, 117, 114, 110, 115, 32, 40, 121, 58, 32, 105, 56, 41, 32, 108, 101, 116, 32, 121, 32, 61, 32, 48, 105, 56, 59, 32, 116, 101, 108]
def arE (n at_ : Nat) : Int := if n ≤ 16 ∧ at_ < n then 0 else 23
def maE (n m : Nat) : Int := if n ≤ 16 ∧ m ≤ 16 then (if n = m then 0 else 22) else 23
def inE (n : Nat) : Int := if n ≤ 16 then 0 else 23
def okAr (n : Nat) : Bool := (List.range 21).all fun a => Ty.okT (arText (n + 1) a) (arE (n + 1) a)
def okMa (n : Nat) : Bool := (List.range 20).all fun m => Ty.okT (maText (n + 1) (m + 1)) (maE (n + 1) (m + 1))
def okIn (n : Nat) : Bool := Ty.okT (inText (n + 1)) (inE (n + 1))
def outs : Nat → List UInt8
 | 0 => []
 | i + 1 => outs i ++ ((if i = 0 then [] else [59, 32]) ++ [111, dg i, 58, 32, 105, 56])
def body : Nat → List UInt8
 | 0 => []
 | i + 1 => body i ++ [111, dg i, 32, 61, 32, 49, 105, 56, 59, 32]
def vars (bad : Nat) : Nat → List UInt8
 | 0 => []
 | i + 1 => vars bad i ++ ((if i = 0 then [] else [59, 32]) ++ [118, dg i, 58, 32, (if i = bad then 117 else 105), 56])
def lhs : Nat → List UInt8
 | 0 => []
 | i + 1 => lhs i ++ ((if i = 0 then [] else [44, 32]) ++ [118, dg i])
def caText (n m bad : Nat) : List UInt8 := [110, 111, 100, 101, 32, 103, 40, 41, 32, 114, 101, 116, 117, 114, 110, 115, 32, 40] ++ outs n ++ [41, 32, 108, 101, 116, 32] ++ body n ++ [116, 101, 108, 32, 110, 111, 100, 101, 32, 102, 40, 41, 32, 114, 101, 116, 117, 114, 110, 115, 32, 40] ++ vars bad m ++ [41, 32, 108, 101, 116, 32, 40] ++ lhs m ++ [41, 32, 61, 32, 103, 40, 41, 59, 32, 116, 101, 108]
def caE (n m bad : Nat) : Int := if n = m then (if bad < m then 22 else 0) else 23
def okCa (n m : Nat) : Bool := (List.range (m + 2)).all fun x => Ty.okT (caText (n + 1) (m + 1) x) (caE (n + 1) (m + 1) x)
theorem vars_far (bad c : Nat) : ∀ m, m ≤ bad → m ≤ c → vars bad m = vars c m
 | 0, _, _ => rfl
 | m + 1, h, h2 => by
  simp only [vars]
  rw [vars_far bad c m (by omega) (by omega), if_neg (show ¬ m = bad by omega), if_neg (show ¬ m = c by omega)]
theorem rg {n : Nat} {p : Nat → Bool} (h : (List.range n).all p = true) (k : Nat) (hk : k < n) : p k = true := by
 rw [List.all_eq_true] at h
 exact h k (List.mem_range.2 hk)
end Go.Proofs.YtbbamgjdnibldaaGreat.Fam
namespace Go.Proofs.YtbbamgjdnibldaaGreat
open Go.RowKit Go.Maps Go.WideMaps
theorem digit_one (r : Nat) (h : r < 10) : ((⟨#[48, 49, 50, 51, 52, 53, 54, 55, 56, 57]⟩ : ByteArray).extract r (r + 1)).data.toList = [UInt8.ofNat (48 + r)] := by
 rcases (show r = 0 ∨ r = 1 ∨ r = 2 ∨ r = 3 ∨ r = 4 ∨ r = 5 ∨ r = 6 ∨ r = 7 ∨ r = 8 ∨ r = 9 by omega) with rfl | rfl | rfl | rfl | rfl | rfl | rfl | rfl | rfl | rfl <;> decide
def digInv (v n : Nat) (l : List UInt8) : Prop := (n = v ∧ l = []) ∨ (10 ≤ v ∧ n = v / 10 ∧ l = [UInt8.ofNat (48 + v % 10)])
theorem rdig_any (v : Nat) (hv : v < 100) (w : World) :
  Calls Tryz.prog 12 #[.int .i64 (v : Int)] w fun e w' => (∃ x : ByteArray, e = .returned (.string x) ∧ x.data.toList = Fam.ds v) ∧ w' = w := by
 go_enter Tryz.func12, Tryz.ntmps12
 go_wp2
 go_loop [0, 3] (fun a b => ∃ (n : Nat) (x : ByteArray), a = .int .i64 (n : Int) ∧ b = .string x ∧ n ≤ 99 ∧ x.size ≤ 18 ∧ Hid (digInv v n x.data.toList)) (fun a _ => (intOf a).toNat)
 case atStart => exact ⟨v, ⟨#[]⟩, rfl, rfl, by omega, by decide, .inl ⟨rfl, rfl⟩⟩
 case round =>
  obtain ⟨n, x, rfl, rfl, hn, hx, H⟩ := hrel
  have m1 : ((n : Int).tmod 10) = ((n % 10 : Nat) : Int) := (Int.ofNat_tmod n 10).symm
  have q1 : ((n : Int).tdiv 10) = ((n / 10 : Nat) : Int) := (Int.ofNat_tdiv n 10).symm
  have q2 : wrap64 ((n / 10 : Nat) : Int) = ((n / 10 : Nat) : Int) := by unfold wrap64; omega
  have hxl : x.data.toList.length = x.size := by simp
  have hadd : ((⟨#[48, 49, 50, 51, 52, 53, 54, 55, 56, 57]⟩ : ByteArray).extract (n % 10) (n % 10 + 1) ++ x).data.toList = UInt8.ofNat (48 + n % 10) :: x.data.toList := by
   rw [ByteArray.data_append, Array.toList_append, digit_one (n % 10) (by omega)]; rfl
  have hx2 : x.size ≤ 1 := by
   rw [← hxl]
   rcases H.out with ⟨_, e⟩ | ⟨_, _, e⟩ <;> rw [e] <;> simp
  have HE : Hid (n / 10 = 0 → UInt8.ofNat (48 + n % 10) :: x.data.toList = Fam.ds v) := by
   intro h0
   unfold Fam.ds Fam.dg
   rcases H.out with ⟨rfl, e⟩ | ⟨h1, rfl, e⟩
   ·rw [e, if_pos (by omega), Nat.mod_eq_of_lt (by omega)]
   ·rw [e, if_neg (by omega), Nat.mod_eq_of_lt (show v / 10 < 10 by omega)]
  have HN : Hid (n / 10 ≠ 0 → digInv v (n / 10) (UInt8.ofNat (48 + n % 10) :: x.data.toList)) := by
   intro h0
   rcases H.out with ⟨rfl, e⟩ | ⟨h1, rfl, e⟩
   ·exact .inr ⟨by omega, rfl, by rw [e]⟩
   ·exfalso; omega
  obtain ⟨r, hrr⟩ : ∃ r, r = n % 10 := ⟨_, rfl⟩
  obtain ⟨q, hqq⟩ : ∃ q, q = n / 10 := ⟨_, rfl⟩
  rw [← hrr] at m1 hadd HE HN
  rw [← hqq] at q1 q2 HE HN
  have r9 : r ≤ 9 := by omega
  have HQ : Hid (q = n / 10) := hqq
  clear hqq hrr
  have HA : Hid _ := hadd
  have HQ2 : Hid _ := q2
  clear hadd H
  by_cases hq0 : q = 0
  ·have hq1 : ((q : Int) == 0) = true := by rw [beq_iff_eq]; omega
   go_wp2
   go_ret
   exact ⟨⟨_, rfl, by rw [HA.out]; exact HE.out hq0⟩, rfl⟩
  ·have hq1 : ((q : Int) == 0) = false := by rw [beq_eq_false_iff_ne]; omega
   go_wp2
   have hsize : ((⟨#[48, 49, 50, 51, 52, 53, 54, 55, 56, 57]⟩ : ByteArray).extract r (r + 1) ++ x).size = x.size + 1 := by
    have h1 : ((⟨#[48, 49, 50, 51, 52, 53, 54, 55, 56, 57]⟩ : ByteArray).extract r (r + 1) ++ x).data.toList.length = ((⟨#[48, 49, 50, 51, 52, 53, 54, 55, 56, 57]⟩ : ByteArray).extract r (r + 1) ++ x).size := Array.length_toList
    rw [HA.out, List.length_cons, hxl] at h1
    exact h1.symm
   have hqn := HQ.out
   refine ⟨⟨q, _, by rw [HQ2.out], rfl, by omega, by rw [hsize]; omega, ?_⟩, ?_⟩
   ·show digInv _ _ _
    rw [HA.out]
    exact HN.out hq0
   ·rw [HQ2.out]
    simp only [intOf, Int.toNat_natCast]
    omega
theorem rkindN_any (k : Nat) (h1 : 1 ≤ k) (h9 : k ≤ 9) (w : World) :
  Calls Tryz.prog 8 #[.int .i64 (k : Int)] w fun e w' => ∃ x : ByteArray, e = .returned (.string x) ∧ x.size ≤ 4 ∧ Hid (x.data.toList = Fam.kn (k - 1)) ∧ w.grownBy w' none := by
 rcases (show k = 1 ∨ k = 2 ∨ k = 3 ∨ k = 4 ∨ k = 5 ∨ k = 6 ∨ k = 7 ∨ k = 8 ∨ k = 9 by omega) with rfl | rfl | rfl | rfl | rfl | rfl | rfl | rfl | rfl
 all_goals
  go_enter Tryz.func8, Tryz.ntmps8
  go_wp2
  go_ret
  exact ⟨_, rfl, by decide, ld rfl, ga w _ none⟩
theorem num6_any (n : Int) (w : World) : Calls Tryz.prog 11 #[.int .i64 n] w fun e w' => e = .returned (.int .i64 n) ∧ w' = w := by
 go_enter Tryz.func11, Tryz.ntmps11
 go_wp2
 go_ret
 exact ⟨rfl, rfl⟩
theorem prog5_ok {s : ByteArray} (hs : s.size ≤ 8000) (hav : Ty.noAVs s.data.toList = true) {l : List Gram.Node} (hp : Gram.Rf.parse s.data.toList = .ok l) (w : World) : Calls Tryz.prog 13 #[.string s] w fun e w' => ∃ a L c, e = .returned (.tuple #[.agg #[.slice a L c], .bool true]) ∧ RepC w' w.heap.size [] (.l 44 6 (l.map nodeD)) (.slice a L c) ∧ w.grownBy w' none := by
 have hpa := rparse_plain s (w.alloc prE) (Ty.noAVs_is hav) (by rw [hp]; simp)
 rw [hp] at hpa
 simp only [rpsPost] at hpa
 have hg0 := ga w prE none
 have hr0 := heap_alloc_new w prE
 have hs0 : (w.alloc prE).heap.size = w.heap.size + 1 := by simp
 have hd : decide ((8000 : Int) < (s.size : Int)) = false := by rw [decide_eq_false_iff_not]; omega
 have HG0 := ld hg0
 have HR0 := ld hr0
 unfold prE at hpa
 clear hp hg0 hr0
 go_enter Tryz.func13, Tryz.ntmps13
 go_wp2_with (first | (go_at_call 18; refine hpa.mono ?_; rintro e w1 ⟨a, L, c, rfl, hk, hg1⟩; refine Hid.out ?_))
 rw [show (Obj.cells #[Value.slice none 0 0] 27) = prE from rfl] at hg1 hk
 have hga := ga w1 (.cells #[.slice a L c] 27 (0, 0)) none
 have hgx : (w.alloc prE).grownBy (w1.alloc (.cells #[.slice a L c] 27 (0, 0))) none := hg1.trans hga
 have hce := (hgx.block w.heap.size (by omega) (by simp)).trans HR0.out
 have z0 := cell_of_row _ _ 0 _ _ _ (heap_alloc_new w1 (.cells #[.slice a L c] 27 (0, 0)))
 have HK := ld (And.intro (RepC.kept hga (fun k e => by cases e) hk) (HG0.out.trans hgx))
 clear hk hg1 hga hgx hpa HR0
 refine ld ?_
 go_wp2_with (with_reducible refine hold_st 2 ?_)
 refine ld ?_
 refine sg hce ?_
 intro w7 hh7 hg7
 go_wp2
 (try simp only [Exit.inBlock, Exit.then])
 refine bodyPost_ret (results_cell_tmp rfl _ _ w.heap.size 27 _ (0, 0) _ _ rfl rfl hh7 Tryz.underlying27 rfl (by kernel_rfl)) rfl ?_
 exact ⟨_, _, _, rfl, RepC.mono (by omega) (RepC.kept hg7 (fun k e => by cases e; omega) HK.out.1), HK.out.2.andThen hg7 (fun j e => .inl (by cases e; exact Nat.le_refl _))⟩
def Nd (w : World) (s : List UInt8) (v : Value) : Prop := ∃ l, Gram.Rf.parse s = .ok l ∧ l.length ≤ 10000 ∧ (∀ x ∈ l, Ty.fineN x = true) ∧ RepC w 0 [] (.l 44 6 (l.map nodeD)) v
theorem Nd.kept {w w' : World} {s : List UInt8} {v : Value} (h : Nd w s v) (hg : w.grownBy w' none) : Nd w' s v := by
 obtain ⟨l, h1, h2, h3, h4⟩ := h
 exact ⟨l, h1, h2, h3, RepC.kept hg (fun k e => by cases e) h4⟩
theorem named_ok {s : ByteArray} {t : List UInt8} {e : Int} (ht : s.data.toList = t) (h : Ty.okT t e = true) (w : World) : Calls Tryz.prog 9 #[.string s] w fun r w' => ∃ a L c, r = .returned (.tuple #[.agg #[.slice a L c], .bool true]) ∧ Nd w' t (.slice a L c) ∧ w.grownBy w' none := by
 obtain ⟨l, hp, hav, hs, hl, hN, hK, hc, -⟩ := Ty.okT_split h
 subst ht
 rw [Array.length_toList] at hs
 have hs : s.size ≤ 8000 := hs
 have hg0 := ga w prE none
 have hr0 := heap_alloc_new w prE
 have hpr := prog5_ok hs hav hp (w.alloc prE)
 have hs0 : (w.alloc prE).heap.size = w.heap.size + 1 := by simp
 have HG0 := ld hg0
 have HR0 := ld hr0
 have HP := ld (And.intro hp (And.intro hl (And.intro hN (And.intro hK hc))))
 unfold prE at hpr
 clear hp hl hN hK hc h hg0 hr0
 go_enter Tryz.func9, Tryz.ntmps9
 go_wp2_with (first | (go_at_call 13; refine hpr.mono ?_; rintro e w1 ⟨a, L, c, rfl, hk, hg1⟩; refine Hid.out ?_))
 rw [show (Obj.cells #[Value.slice none 0 0] 27) = prE from rfl] at hg1 hk
 have hga := ga w1 (.cells #[.slice a L c] 27 (0, 0)) none
 have hk2 := RepC.kept hga (fun k e => by cases e) hk
 have hL := (nLen hk2).1
 rw [List.length_map] at hL
 have hck := ccheckO_any _ _ a L c (RepC.mono (Nat.zero_le _) hk2) (by have := HP.out.2.1; omega) HP.out.2.2.2.1 HP.out.2.2.2.2
 have hgx : (w.alloc prE).grownBy (w1.alloc (.cells #[.slice a L c] 27 (0, 0))) none := hg1.trans hga
 have z0 := cell_of_row _ _ 0 _ _ _ (heap_alloc_new w1 (.cells #[.slice a L c] 27 (0, 0)))
 have HK := ld (And.intro hk2 hgx)
 clear hk hk2 hg1 hga hgx hpr hL
 refine ld ?_
 go_wp2_with (first | (go_at_call 14; refine hck.mono ?_; rintro e w2 ⟨rfl, hg2⟩; refine Hid.out ?_))
 have z1 := hg2.cell z0 (by simp)
 have hgy := HK.out.2.trans hg2
 have hce := (hgy.block w.heap.size (by omega) (by simp)).trans HR0.out
 have HK2 := ld (And.intro (RepC.kept hg2 (fun k e => by cases e) HK.out.1) (HG0.out.trans hgy))
 clear hck hg2 z0 hgy HR0 HK
 refine ld ?_
 go_wp2_with (with_reducible refine hold_st 2 ?_)
 refine ld ?_
 refine sg hce ?_
 intro w7 hh7 hg7
 go_wp2
 (try simp only [Exit.inBlock, Exit.then])
 refine bodyPost_ret (results_cell_tmp rfl _ _ w.heap.size 27 _ (0, 0) _ _ rfl rfl hh7 Tryz.underlying27 rfl (by kernel_rfl)) rfl ?_
 exact ⟨_, _, _, rfl, ⟨_, HP.out.1, HP.out.2.1, HP.out.2.2.1, RepC.mono (Nat.zero_le _) (RepC.kept hg7 (fun k e => by cases e; omega) HK2.out.1)⟩, HK2.out.2.andThen hg7 (fun j e => .inl (by cases e; exact Nat.le_refl _))⟩
theorem tc_ok {s : List UInt8} {e : Int} (h : Ty.okT s e = true) {w : World} {a : Option Addr} {L c : Nat} (hn : Nd w s (.slice a L c)) : Calls Tryz.prog 10 #[.agg #[.slice a L c]] w fun r w' => (∃ at_, r = .returned (.tuple #[.int .i64 at_, .int .i64 e])) ∧ w.grownBy w' none := by
 obtain ⟨l, hp, hl, hN, hk⟩ := hn
 obtain ⟨l', hp', -, -, -, -, -, -, he⟩ := Ty.okT_split h
 rw [hp] at hp'
 cases hp'
 refine (tcheck_any w l a L c hk hl hN).mono ?_
 rintro r w' ⟨rfl, hg⟩
 exact ⟨⟨_, by rw [he]⟩, hg⟩
theorem tc_at {s : List UInt8} {at_ e : Int} (h : Ty.okP s at_ e = true) {w : World} {a : Option Addr} {L c : Nat} (hn : Nd w s (.slice a L c)) : Calls Tryz.prog 10 #[.agg #[.slice a L c]] w fun r w' => r = .returned (.tuple #[.int .i64 at_, .int .i64 e]) ∧ w.grownBy w' none := by
 obtain ⟨l, hp, hl, hN, hk⟩ := hn
 unfold Ty.okP at h
 rw [hp] at h
 simp only [Bool.and_eq_true, beq_iff_eq] at h
 obtain ⟨l', hp', -, -, -, -, -, -, he⟩ := Ty.okT_split h.1
 rw [hp] at hp'
 cases hp'
 refine (tcheck_any w l a L c hk hl hN).mono ?_
 rintro r w' ⟨rfl, hg⟩
 exact ⟨by rw [he, h.2], hg⟩
theorem okP_T {s : List UInt8} {a e : Int} (h : Ty.okP s a e = true) : Ty.okT s e = true := by
 unfold Ty.okP at h
 rw [Bool.and_eq_true] at h
 exact h.1
theorem al_a : Ty.okP [110, 111, 100, 101, 32, 102, 40, 120, 58, 32, 105, 56, 41, 32, 114, 101, 116, 117, 114, 110, 115, 32, 40, 121, 58, 32, 105, 49, 54, 41, 32, 108, 101, 116, 32, 121, 32, 61, 32, 120, 32, 43, 32, 49, 105, 49, 54, 59, 32, 116, 101, 108] 39 22 = true := by kernel_rfl
theorem al_b : Ty.okT ([110, 111, 100, 101, 32, 103, 40, 120, 58, 32, 105, 56, 41, 32, 114, 101, 116, 117, 114, 110, 115, 32, 40, 121, 58, 32, 105, 56, 41, 32, 108, 101, 116, 32, 121, 32, 61, 32, 45, 32, 120, 59, 32, 116, 101, 108, 32, 110, 111, 100, 101, 32].append [102, 40, 41, 32, 114, 101, 116, 117, 114, 110, 115, 32, 40, 121, 58, 32, 105, 56, 94, 50, 41, 32, 108, 101, 116, 32, 121, 32, 61, 32, 109, 97, 112, 40, 103, 44, 32, 91, 49, 105, 56, 44, 32, 50, 105, 56, 93, 41, 59, 32, 116, 101, 108]) 0 = true := by kernel_rfl
theorem alive6_any (w : World) : Calls Tryz.prog 7 #[] w fun e w' => e = .returned (.bool true) ∧ w.grownBy w' none := by
 go_enter Tryz.func7, Tryz.ntmps7
 go_wp2_with (first | (go_at_call 9; refine (named_ok (e := 22) (by rfl) (okP_T al_a) _).mono ?_; rintro e w1 ⟨a1, L1, c1, rfl, h1, hg1⟩; refine Hid.out ?_))
 have hga := ga w1 (.cells #[.slice a1 L1 c1] 27 (0, 0)) none
 have q1 := cell_of_row _ _ 0 _ _ _ (heap_alloc_new w1 (.cells #[.slice a1 L1 c1] 27 (0, 0)))
 have HA := ld (And.intro (h1.kept hga) (hg1.trans hga))
 clear hga hg1 h1
 refine ld ?_
 go_wp2_with (first | (go_at_call 9; refine (named_ok (e := 0) (by rfl) al_b _).mono ?_; rintro e w2 ⟨a2, L2, c2, rfl, h2, hg2⟩; refine Hid.out ?_))
 have hgb := ga w2 (.cells #[.slice a2 L2 c2] 27 (0, 0)) none
 have q2 := cell_of_row _ _ 0 _ _ _ (heap_alloc_new w2 (.cells #[.slice a2 L2 c2] 27 (0, 0)))
 have q1' := (hg2.trans hgb).cell q1 (by simp)
 have HB := ld (And.intro (h2.kept hgb) (And.intro (HA.out.1.kept (hg2.trans hgb)) (HA.out.2.trans (hg2.trans hgb))))
 clear hgb hg2 h2 q1 HA
 refine ld ?_
 go_wp2_with (first | (go_at_call 10; refine (tc_at al_a HB.out.2.1).mono ?_; rintro e w3 ⟨rfl, hg3⟩; refine Hid.out ?_))
 have q2' := hg3.cell q2 (by simp)
 have HC := ld (And.intro (HB.out.1.kept hg3) (HB.out.2.2.trans hg3))
 clear hg3 q1' q2 HB
 refine ld ?_
 go_wp2_with (first | (go_at_call 10; refine (tc_ok al_b HC.out.1).mono ?_; rintro e w4 ⟨⟨at4, rfl⟩, hg4⟩; refine Hid.out ?_))
 have HD := ld (HC.out.2.trans hg4)
 clear hg4 q2' HC
 refine ld ?_
 go_wp2_with (go_at_call 11; refine (num6_any _ _).mono ?_; rintro e w' ⟨rfl, rfl⟩)
 go_ret
 exact ⟨rfl, HD.out⟩
theorem ltx (m n : Int) : (decide (m < n) = true ∧ decide (n ≤ m) = false ∧ m < n) ∨ (decide (m < n) = false ∧ decide (n ≤ m) = true ∧ n ≤ m) := by
 by_cases h : m < n
 ·exact .inl ⟨decide_eq_true h, decide_eq_false (by omega), h⟩
 ·exact .inr ⟨decide_eq_false h, decide_eq_true (by omega), by omega⟩
theorem eqx (m n : Int) : ((m == n) = true ∧ (m != n) = false ∧ m = n) ∨ ((m == n) = false ∧ (m != n) = true ∧ m ≠ n) := by
 by_cases h : m = n
 ·exact .inl ⟨by simp [h], by simp [h], h⟩
 ·exact .inr ⟨by simp [h], by simp [h], h⟩
theorem ba_of {x : ByteArray} {l : List UInt8} (h : x.data.toList = l) : x = ⟨l.toArray⟩ := by
 cases x with
 | mk d => simp only at h; subst h; simp
theorem ds_len (v : Nat) : (Fam.ds v).length ≤ 2 := by
 unfold Fam.ds
 split <;> simp
theorem rdigX (v : Nat) (hv : v < 100) : ∃ X : ByteArray, X.size ≤ 2 ∧ Hid (X.data.toList = Fam.ds v) ∧ ∀ w, Calls Tryz.prog 12 #[.int .i64 (v : Int)] w fun e w' => e = .returned (.string X) ∧ w' = w := by
 refine ⟨⟨(Fam.ds v).toArray⟩, by have := ds_len v; simpa [ByteArray.size] using this, ld rfl, fun w => (rdig_any v hv w).mono ?_⟩
 rintro e w' ⟨⟨x, rfl, hx⟩, hw⟩
 exact ⟨by rw [ba_of hx], hw⟩
end Go.Proofs.YtbbamgjdnibldaaGreat
