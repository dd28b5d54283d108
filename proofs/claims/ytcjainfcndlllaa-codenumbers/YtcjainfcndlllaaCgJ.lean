/- Package code: the mark is cut off. -/
import Derived.Test.YtcjainfcndlllaaCgI
namespace Go.Proofs.Ytcjainfcndlllaa
open Go.RowKit Go.Maps Go.WideMaps

theorem cv4 (w : World) (g o cp : Nat) (h : ∀ j b, Cd.magic[j]? = some b → w.cell? ⟨g, o + j, none⟩ = some (.int .u8 b.toNat)) : (convert 38 9 (.slice (some ⟨g, o, none⟩) 4 cp)).run Try.prog w = .ok (.string ⟨#[77, 84, 82, 49]⟩) w := by
  have hh := run_convert_bytes_back (P := Try.prog) w 38 9 5 ⟨g, o, none⟩ cp [77, 84, 82, 49] Try.underlying38 Try.underlying5 Try.underlying9 (fun j hj => by
    have hj4 : j < 4 := hj
    rw [Addr.add_mid]
    rcases (show j = 0 ∨ j = 1 ∨ j = 2 ∨ j = 3 by omega) with rfl | rfl | rfl | rfl
    · exact h 0 _ rfl
    · exact h 1 _ rfl
    · exact h 2 _ rfl
    · exact h 3 _ rfl)
  exact hh

set_option maxHeartbeats 2000000 in
theorem cutPrefix_any (w : World) (a : Option Addr) (c G : Nat) (l1 : List UInt8) (hb : BytesAt w a (Cd.magic ++ l1)) (hc : (Cd.magic ++ l1).length ≤ c) (hl : (Cd.magic ++ l1).length ≤ 4000000) (hG : ∀ j b, Cd.magic[j]? = some b → w.cell? ⟨G, 0 + j, none⟩ = some (.int .u8 b.toNat)) :
    Calls Try.prog 35 #[.slice a (Cd.magic ++ l1).length c, .slice (some ⟨G, 0, none⟩) 4 4] w fun e w' => w' = w ∧ ∃ a' c', e = .returned (.tuple #[.slice a' l1.length c', .bool true]) ∧ BytesAt w a' l1 ∧ (∀ g o, a' = some ⟨g, o, none⟩ → l1 ≠ [] → ∃ o', a = some ⟨g, o', none⟩) := by
  obtain ⟨g, o, rfl, -⟩ := hb 0 77 rfl
  have hm : ∀ j b, Cd.magic[j]? = some b → w.cell? ⟨g, o + j, none⟩ = some (.int .u8 b.toNat) := fun j b hj => by
    obtain ⟨g', o', e, h⟩ := hb j b (by rw [List.getElem?_append_left (by have := (List.getElem?_eq_some_iff.1 hj).1; exact this), hj])
    cases e
    exact h
  have k1 := fun cp => cv4 w g o cp hm
  have k2 := fun cp => cv4 w G 0 cp hG
  have hlen : (Cd.magic ++ l1).length = l1.length + 4 := by simp [Cd.magic]
  have HB : Hid (BytesAt w (some ⟨g, o + 4, none⟩) l1) := Lib.hid (fun i b hi => by
    obtain ⟨g', o', e, h⟩ := hb (4 + i) b (by rw [List.getElem?_append_right (by simp [Cd.magic])]; simpa [Cd.magic] using hi)
    cases e
    exact ⟨g, o + 4, rfl, by rw [Nat.add_assoc]; exact h⟩)
  rw [hlen] at hc hl ⊢
  have HL : Hid (c = 4 → l1 = []) := Lib.hid (fun e => List.eq_nil_of_length_eq_zero (by omega))
  clear hb hm hG hlen
  obtain ⟨L, hL⟩ : ∃ L, L = l1.length := ⟨_, rfl⟩
  rw [← hL] at hc hl ⊢
  have HLL := Lib.hid hL
  clear hL
  have d1 : decide ((4 : Int) ≤ ((L + 4 : Nat) : Int)) = true := by rw [decide_eq_true_iff]; omega
  by_cases hc4 : c = 4
  · go_enter Try.func35, Try.ntmps35
    go_wp2
    go_ret2
    exact ⟨rfl, _, _, rfl, (by rw [HL.out hc4]; exact fun i b h => by simp at h), fun g' o' e hne => absurd (HL.out hc4) hne⟩
  · go_enter Try.func35, Try.ntmps35
    go_wp2
    go_ret2
    exact ⟨rfl, _, _, rfl, HB.out, fun g' o' e _ => by cases e; exact ⟨o, rfl⟩⟩
end Go.Proofs.Ytcjainfcndlllaa
