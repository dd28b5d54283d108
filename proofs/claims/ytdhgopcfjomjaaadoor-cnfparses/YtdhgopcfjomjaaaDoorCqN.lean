/- cnf: a formula's text is read as that formula (plain); metronomelaw23.CnfTexts: the walk. -/
import Derived.Test.YtdhgopcfjomjaaaDoorCqM
namespace Go.Proofs.YtdhgopcfjomjaaaDoor
open Go.RowKit Go.Maps Go.WideMaps
open Go.Lib hiding intOf run_convert_string_bytes
open Cn (I64)

namespace Cn
theorem csGo_text : ∀ (L acc : List (List Int)), (∀ c ∈ L, ∀ x ∈ c, x ≠ 0 ∧ -1000000000 ≤ x ∧ x ≤ 1000000000) → csGo L.length acc (clsT L) false = (acc ++ L, [], false)
  | [], acc, _ => by rw [List.append_nil]; rfl
  | c :: r, acc, h => by
    have e : clsT (c :: r) = clT c ++ clsT r := rfl
    have hc := clP_text (h c List.mem_cons_self) (clsT r)
    rw [List.length_cons, csGo, e, hc]
    simp only [Bool.false_eq_true, if_false]
    rw [csGo_text r (acc ++ [c]) (fun d hd => h d (List.mem_cons_of_mem _ hd))]
    simp
theorem ahP_dec {u : Nat} (h : u < 1000000000000000000) (c : UInt8) (hc : dig c = false) (r : List UInt8) : ahP (decDigits u ++ c :: r) false [c] = ((u : Int), r, false) := by
  unfold ahP
  rw [digs_dec u c hc, trim_dec u c hc, (trimP_cons c r).1, (trimP_cons c r).2, (cnt_dec h).1, (cnt_dec h).2]
  rfl
theorem hasP_app (p r : List UInt8) : hasPrefix (p ++ r) p = true ∧ trimPrefix (p ++ r) p = r := by
  have h : hasPrefix (p ++ r) p = true := by unfold hasPrefix; exact List.isPrefixOf_iff_prefix.2 (List.prefix_append p r)
  refine ⟨h, ?_⟩
  unfold trimPrefix
  rw [if_pos h, List.drop_left]
theorem formP_text {f : Fm} (h : check f = 0) : formP (txt f) = (f.vars, f.cl, [], false) := by
  obtain ⟨vs, L⟩ := f
  have hok := check_ok.1 h
  simp only at hok
  have hwl := wt_len L
  obtain ⟨n, rfl⟩ : ∃ n : Nat, vs = (n : Int) := ⟨vs.toNat, by omega⟩
  have e1 : itoa (n : Int) = decDigits n := by unfold itoa; rw [if_neg (by omega), Int.toNat_natCast]
  have e2 : itoa (L.length : Int) = decDigits L.length := by unfold itoa; rw [if_neg (by omega), Int.toNat_natCast]
  have e3 : txt ⟨(n : Int), L⟩ = hd6 ++ (decDigits n ++ 32 :: (decDigits L.length ++ 10 :: clsT L)) := by
    unfold txt headT
    rw [e1, e2]
    simp
  have h1 := hasP_app hd6 (decDigits n ++ 32 :: (decDigits L.length ++ 10 :: clsT L))
  have h2 := ahP_dec (u := n) (by omega) 32 (by decide) (decDigits L.length ++ 10 :: clsT L)
  have h3 := ahP_dec (u := L.length) (by omega) 10 (by decide) (clsT L)
  have h4 := csGo_text L [] (fun c hc x hx => by
    have := fair_bnd (fairs_mem hok.2.2.2 hc hx)
    omega)
  unfold formP
  rw [e3, h1.1, h1.2]
  simp only [Bool.not_true, Bool.or_false, h2, h3, Int.toNat_natCast, h4, List.nil_append, if_true]
end Cn
end Go.Proofs.YtdhgopcfjomjaaaDoor
