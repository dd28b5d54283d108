/- show's printer: pre, arrow, binary (a sum); what each expression of the document's example is printed as. -/
import Derived.Test.YtachmiajldeakaaGreatDoorShI
namespace Go.Proofs.YtachmiajldeakaaGreatDoor
open Go.RowKit Go.Maps Go.WideMaps

theorem aroundA (w0 : World) (B0 b : Nat) (l : List UInt8) (ts : List ByteArray) (xs : List Gram.Exp) (ks : List (List UInt8)) (ka : Option Addr) (kn kc : Nat) (cs : Array Value) (n : Nat) (w : World) (o : Obj) (hk : RepC w0 B0 [] (.l 28 9 (expsD xs)) (.slice ka kn kc)) (h : Pr w0.heap.size b l w) (hw : w0.grownBy w none) (hcs : cs = (ts.map Value.string).toArray) (hn : n = ts.length) (hL : ts.length = xs.length + 1) (hks : ks.length = xs.length) (hn2 : xs.length ≤ 20)
    (hlen : l.length + (arL ts ks xs.length).length ≤ 80000) (hpr : ∀ (i : Nat) (x : Gram.Exp) (t : List UInt8), xs[i]? = some x → ks[i]? = some t → Prints w0 B0 b x t) :
    Calls Tryz.prog 94 #[.pointer (some ⟨b, 0, none⟩), .slice ka kn kc, .slice (some ⟨w.heap.size + 1, 0, none⟩) n n] ((w.alloc o).alloc (.cells cs 9)) fun e w' => e = .returned (.tuple #[]) ∧ Pr w0.heap.size b (l ++ arL ts ks xs.length) w' ∧ Kb w0.heap.size b w w' := by
  subst hcs hn
  have hg : Tx ((w.alloc o).alloc (.cells (ts.map Value.string).toArray 9)) (w.heap.size + 1) ts := by
    have := Tx.new (w.alloc o) ts
    rw [World.size_alloc] at this
    exact this
  have hg2 : w.grownBy ((w.alloc o).alloc (.cells (ts.map Value.string).toArray 9)) none := (World.grownBy_alloc w o none).trans (World.grownBy_alloc _ _ none)
  refine (around_any w0 B0 b l ts xs ks ka kn kc (w.heap.size + 1) ts.length _ hk (h.grown hg2) (hw.trans hg2) hg hL hks hn2 hlen hpr).mono ?_
  rintro e w' ⟨rfl, h1, k1⟩
  exact ⟨rfl, h1, ((Kb.refl _ b w).grown hw.size hg2).trans k1⟩

theorem pr_two {w0 : World} {B0 b : Nat} {x y : Gram.Exp} {t u : List UInt8} (p : Prints w0 B0 b x t) (q : Prints w0 B0 b y u) : ∀ (i : Nat) (z : Gram.Exp) (v : List UInt8), [x, y][i]? = some z → [t, u][i]? = some v → Prints w0 B0 b z v := by
  intro i z v h1 h2
  match i, h1, h2 with
  | 0, h1, h2 => cases h1; cases h2; exact p
  | 1, h1, h2 => cases h1; cases h2; exact q
theorem pr_one {w0 : World} {B0 b : Nat} {x : Gram.Exp} {t : List UInt8} (p : Prints w0 B0 b x t) : ∀ (i : Nat) (z : Gram.Exp) (v : List UInt8), [x][i]? = some z → [t][i]? = some v → Prints w0 B0 b z v := by
  intro i z v h1 h2
  match i, h1, h2 with
  | 0, h1, h2 => cases h1; cases h2; exact p

set_option maxHeartbeats 1000000 in
theorem arrow_any (w0 : World) (B0 b : Nat) (l : List UInt8) (s tk tl n m at_ : Int) (nm : ByteArray) (ka : Option Addr) (kn kc : Nat) (x y : Gram.Exp) (t u : List UInt8) (w : World) (hk : RepC w0 B0 [] (.l 28 9 (expsD [x, y])) (.slice ka kn kc)) (h : Pr w0.heap.size b l w) (hw : w0.grownBy w none) (hlen : l.length + (40 :: (t ++ [32, 45, 62, 32] ++ u ++ [41])).length ≤ 80000) (p : Prints w0 B0 b x t) (q : Prints w0 B0 b y u) :
    Calls Tryz.prog 50 #[.pointer (some ⟨b, 0, none⟩), .agg #[.int .i64 7, .int .i64 s, .string nm, .int .i64 tk, .int .i64 tl, .int .i64 n, .int .i64 m, .slice ka kn kc, .int .i64 at_]] w fun e w' => e = .returned (.tuple #[]) ∧ Pr w0.heap.size b (l ++ 40 :: (t ++ [32, 45, 62, 32] ++ u ++ [41])) w' ∧ Kb w0.heap.size b w w' := by
  have e : arL [⟨#[40]⟩, ⟨#[32, 45, 62, 32]⟩, ⟨#[41]⟩] [t, u] 2 = 40 :: (t ++ [32, 45, 62, 32] ++ u ++ [41]) := by simp [arL, ar]
  have hp := fun o => aroundA w0 B0 b l [⟨#[40]⟩, ⟨#[32, 45, 62, 32]⟩, ⟨#[41]⟩] [x, y] [t, u] ka kn kc #[.string ⟨#[40]⟩, .string ⟨#[32, 45, 62, 32]⟩, .string ⟨#[41]⟩] 3 w o hk h hw rfl rfl rfl rfl (by simp) (by rw [show [x, y].length = 2 from rfl, e]; exact hlen) (pr_two p q)
  rw [show [x, y].length = 2 from rfl, e] at hp
  clear e
  go_enter Tryz.func50, Tryz.ntmps50
  go_wp2_with (go_at_call 94; refine (hp _).mono ?_; rintro e w' ⟨rfl, h1, h2⟩)
  go_end0
  exact ⟨rfl, h1, h2⟩

set_option maxHeartbeats 1000000 in
theorem pre_any (w0 : World) (B0 b : Nat) (l : List UInt8) (s tk tl n m at_ : Int) (nm : ByteArray) (ka : Option Addr) (kn kc : Nat) (x : Gram.Exp) (t : List UInt8) (w : World) (hk : RepC w0 B0 [] (.l 28 9 (expsD [x])) (.slice ka kn kc)) (h : Pr w0.heap.size b l w) (hw : w0.grownBy w none) (hlen : l.length + ([40, 112, 114, 101, 32] ++ t ++ [41]).length ≤ 80000) (p : Prints w0 B0 b x t) :
    Calls Tryz.prog 49 #[.pointer (some ⟨b, 0, none⟩), .agg #[.int .i64 6, .int .i64 s, .string nm, .int .i64 tk, .int .i64 tl, .int .i64 n, .int .i64 m, .slice ka kn kc, .int .i64 at_]] w fun e w' => e = .returned (.tuple #[]) ∧ Pr w0.heap.size b (l ++ ([40, 112, 114, 101, 32] ++ t ++ [41])) w' ∧ Kb w0.heap.size b w w' := by
  have e : arL [⟨#[40, 112, 114, 101, 32]⟩, ⟨#[41]⟩] [t] 1 = [40, 112, 114, 101, 32] ++ t ++ [41] := by simp [arL, ar]
  have hp := fun o => aroundA w0 B0 b l [⟨#[40, 112, 114, 101, 32]⟩, ⟨#[41]⟩] [x] [t] ka kn kc #[.string ⟨#[40, 112, 114, 101, 32]⟩, .string ⟨#[41]⟩] 2 w o hk h hw rfl rfl rfl rfl (by simp) (by rw [show [x].length = 1 from rfl, e]; exact hlen) (pr_one p)
  rw [show [x].length = 1 from rfl, e] at hp
  clear e
  go_enter Tryz.func49, Tryz.ntmps49
  go_wp2_with (go_at_call 94; refine (hp _).mono ?_; rintro e w' ⟨rfl, h1, h2⟩)
  go_end0
  exact ⟨rfl, h1, h2⟩

set_option maxHeartbeats 1000000 in
set_option maxRecDepth 100000 in
theorem opAdd (w : World) : Calls Tryz.prog 93 #[.int .i64 3] w fun e w' => e = .returned (.string ⟨#[43]⟩) ∧ w' = w := by
  go_enter Tryz.func93, Tryz.ntmps93
  go_wp2
  go_ret
  exact ⟨rfl, rfl⟩

end Go.Proofs.YtachmiajldeakaaGreatDoor
