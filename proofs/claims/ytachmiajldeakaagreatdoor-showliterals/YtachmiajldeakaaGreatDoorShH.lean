/- show's printer: the texts of expressions: literals, names, and what stands around kids. -/
import Derived.Test.YtachmiajldeakaaGreatDoorShG
import Derived.Test.YtachmiajldeakaaGreatDoorShD
import Derived.Test.YtachmiajldeakaaGreatDoorMgG
namespace Go.Proofs.YtachmiajldeakaaGreatDoor
open Go.RowKit Go.Maps Go.WideMaps

/-- put at a row that was just laid, in a world on its own -/
theorem put1 (B b : Nat) (l : List UInt8) (ts : List ByteArray) (w : World) (h : Pr B b l w) (hBw : B ≤ w.heap.size) (hn : ts.length ≤ 100) (hlen : l.length + (tx ts).length ≤ 140737488355328) :
    Calls Tryz.prog 27 #[.pointer (some ⟨b, 0, none⟩), .slice (some ⟨w.heap.size, 0, none⟩) ts.length ts.length] (w.alloc (.cells (ts.map Value.string).toArray 9)) fun e w' => e = .returned (.tuple #[]) ∧ Pr B b (l ++ tx ts) w' ∧ Kb B b w w' :=
  (putN B b l ts w w h hBw (World.grownBy.refl _ _) hn hlen).mono fun _ _ h => ⟨h.1, h.2.1, h.2.2.1⟩

/-- put at a row that was just laid behind another block -/
theorem putA (B b : Nat) (l : List UInt8) (ts : List ByteArray) (cs : Array Value) (n : Nat) (w : World) (o : Obj) (h : Pr B b l w) (hBw : B ≤ w.heap.size) (hcs : cs = (ts.map Value.string).toArray) (hn : n = ts.length) (hn2 : n ≤ 100) (hlen : l.length + (tx ts).length ≤ 140737488355328) :
    Calls Tryz.prog 27 #[.pointer (some ⟨b, 0, none⟩), .slice (some ⟨w.heap.size + 1, 0, none⟩) n n] ((w.alloc o).alloc (.cells cs 9)) fun e w' => e = .returned (.tuple #[]) ∧ Pr B b (l ++ tx ts) w' ∧ Kb B b w w' := by
  have hp := putN B b l ts w (w.alloc o) h hBw (World.grownBy_alloc w o none) (by omega) hlen
  rw [World.size_alloc] at hp
  subst hcs hn
  exact hp.mono fun _ _ h => ⟨h.1, h.2.1, h.2.2.1⟩

set_option maxHeartbeats 1000000 in
theorem literal_bool (B b : Nat) (l : List UInt8) (n a : Int) (hn : n = 0 ∨ n = 1) (ka : Option Addr) (kn kc : Nat) (w : World) (h : Pr B b l w) (hBw : B ≤ w.heap.size) (hlen : l.length ≤ 90000) :
    Calls Tryz.prog 44 #[.pointer (some ⟨b, 0, none⟩), litV 1 n a ka kn kc] w fun e w' => e = .returned (.tuple #[]) ∧ Pr B b (l ++ Lex.litL 1 n) w' ∧ Kb B b w w' := by
  unfold litV
  rcases hn with rfl | rfl
  · have hp := fun o => putA B b l [⟨#[102, 97, 108, 115, 101]⟩] #[.string ⟨#[102, 97, 108, 115, 101]⟩] 1 w o h hBw rfl rfl (by decide) (by simp [tx]; omega)
    go_enter Tryz.func44, Tryz.ntmps44
    go_wp2_with (go_at_call 27; refine (hp _).mono ?_; rintro e w' ⟨rfl, h1, h2⟩)
    go_end0
    exact ⟨rfl, h1, h2⟩
  · have hp := fun o => putA B b l [⟨#[116, 114, 117, 101]⟩] #[.string ⟨#[116, 114, 117, 101]⟩] 1 w o h hBw rfl rfl (by decide) (by simp [tx]; omega)
    go_enter Tryz.func44, Tryz.ntmps44
    go_wp2_with (go_at_call 27; refine (hp _).mono ?_; rintro e w' ⟨rfl, h1, h2⟩)
    go_end0
    exact ⟨rfl, h1, h2⟩

/-- a value of a kind -/
def isLit (k n : Int) : Prop := (k = 1 ∧ (n = 0 ∨ n = 1)) ∨ (2 ≤ k ∧ k ≤ 9)
theorem literal_any (B b : Nat) (l : List UInt8) (k n a : Int) (hk : isLit k n) (i1 : -9223372036854775808 ≤ n) (i2 : n ≤ 9223372036854775807) (ka : Option Addr) (kn kc : Nat) (w : World) (h : Pr B b l w) (hBw : B ≤ w.heap.size) (ht : Tab w) (hlen : l.length ≤ 90000) :
    Calls Tryz.prog 44 #[.pointer (some ⟨b, 0, none⟩), litV k n a ka kn kc] w fun e w' => e = .returned (.tuple #[]) ∧ Pr B b (l ++ Lex.litL k n) w' ∧ Kb B b w w' := by
  rcases hk with ⟨rfl, hn⟩ | ⟨h2, h9⟩
  · exact literal_bool B b l n a hn ka kn kc w h hBw hlen
  · by_cases hb : 0 ≤ n ∨ k = 9
    · exact literal_bare B b l k n a ka kn kc w h hBw ht h2 h9 i1 i2 hb hlen
    · exact literal_neg B b l k n a ka kn kc w h hBw ht h2 h9 i1 i2 hb hlen

set_option maxHeartbeats 1000000 in
theorem variable_any (B b : Nat) (l : List UInt8) (s tk tl n m at_ : Int) (nm : ByteArray) (ka : Option Addr) (kn kc : Nat) (w : World) (h : Pr B b l w) (hBw : B ≤ w.heap.size) (hlen : l.length + nm.size ≤ 90000) :
    Calls Tryz.prog 45 #[.pointer (some ⟨b, 0, none⟩), .agg #[.int .i64 2, .int .i64 s, .string nm, .int .i64 tk, .int .i64 tl, .int .i64 n, .int .i64 m, .slice ka kn kc, .int .i64 at_]] w fun e w' => e = .returned (.tuple #[]) ∧ Pr B b (l ++ nm.data.toList) w' ∧ Kb B b w w' := by
  have hp := fun o => putA B b l [nm] #[.string nm] 1 w o h hBw rfl rfl (by decide) (by simp [tx]; omega)
  rw [show tx [nm] = nm.data.toList by simp [tx]] at hp
  go_enter Tryz.func45, Tryz.ntmps45
  go_wp2_with (go_at_call 27; refine (hp _).mono ?_; rintro e w' ⟨rfl, h1, h2⟩)
  go_end0
  exact ⟨rfl, h1, h2⟩

end Go.Proofs.YtachmiajldeakaaGreatDoor
