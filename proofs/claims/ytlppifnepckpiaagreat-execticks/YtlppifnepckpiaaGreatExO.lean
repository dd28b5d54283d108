/- Stage 21: several machines at once. -/
import Derived.Test.YtlppifnepckpiaaGreatExL
import Derived.Test.YtlppifnepckpiaaGreatExJ
import Derived.Test.YtlppifnepckpiaaGreatJnK
namespace Go.Proofs.YtlppifnepckpiaaGreat
open Go.RowKit Go.Maps Go.WideMaps

/-- a row that came in is a list of numbers -/
theorem Apx.at_one {v : Value} {k : Nat} {X : List Nat} (h : Apx X v) (hk : k ∈ X) : v.ownBlock ≠ some k := fun e => h k e hk
/-- two machines of the code and the document's own one, apart from one another -/
structure TwR (w wr : World) (Bm m Bo o Br r : Nat) (c : Cd.Code) (cm co cr : List Int) (iv nv kv bv iv2 nv2 kv2 bv2 : Value) (ka : Option Addr) (kc : Nat) (ia : Option Addr) (ic : Nat) (ba : Option Addr) (bc : Nat) (cv : Value) : Prop where
  gw : w.grownBy wr none
  M : MachR Bm wr m c cm iv nv kv bv
  O : MachR Bo wr o c co iv2 nv2 kv2 bv2
  R : RMachR w Br wr r c cr ka kc ia ic ba bc cv
  mo : m ≠ o
  mr : m ≠ r
  or_ : o ≠ r
  lo : w.heap.size ≤ Bm ∧ w.heap.size ≤ Bo
  a1 : Apx [o, r] iv
  a2 : Apx [o, r] nv
  a3 : Apx [o, r] kv
  a4 : Apx [o, r] bv
  b1 : Apx [m, r] iv2
  b2 : Apx [m, r] nv2
  b3 : Apx [m, r] kv2
  b4 : Apx [m, r] bv2
  c1 : Apx [m, o] cv
def Tw (w wr : World) (Bm m Bo o Br r : Nat) (c : Cd.Code) (cm co cr : List Int) : Prop := ∃ iv nv kv bv iv2 nv2 kv2 bv2 ka kc ia ic ba bc cv, TwR w wr Bm m Bo o Br r c cm co cr iv nv kv bv iv2 nv2 kv2 bv2 ka kc ia ic ba bc cv
theorem Apx.sub {X Y : List Nat} {v : Value} (h : Apx X v) (hs : ∀ k ∈ Y, k ∈ X) : Apx Y v := fun k e hk => h k e (hs k hk)
/-- what a machine's tick answers, and leaves -/
def TwP (Q : World → Prop) (wr : World) (m : Nat) (T : List Int × Nat × Int × List Int) (e : Ending) (w' : World) : Prop :=
  Q w' ∧ Kp [m] wr w' ∧ ∃ v, e = .returned (.tuple #[v, .int .i64 (T.2.1 : Int), .int .i64 T.2.2.1]) ∧ w'.ownsRow wr.heap.size 3 1 v T.1.length (ints T.1)
section
variable {w wr : World} {Bm m Bo o Br r : Nat} {c : Cd.Code} {cm co cr : List Int}
theorem Tw.gw (h : Tw w wr Bm m Bo o Br r c cm co cr) : w.grownBy wr none := by
  obtain ⟨_, _, _, _, _, _, _, _, _, _, _, _, _, _, _, h⟩ := h
  exact h.gw
theorem Tw.on {w' : World} (h : Tw w wr Bm m Bo o Br r c cm co cr) (hg : wr.grownBy w' none) : Tw w w' Bm m Bo o Br r c cm co cr := by
  obtain ⟨iv, nv, kv, bv, iv2, nv2, kv2, bv2, ka, kc, ia, ic, ba, bc, cv, h⟩ := h
  exact ⟨iv, nv, kv, bv, iv2, nv2, kv2, bv2, ka, kc, ia, ic, ba, bc, cv, h.gw.trans hg, h.M.on hg, h.O.on hg, h.R.on hg, h.mo, h.mr, h.or_, h.lo, h.a1, h.a2, h.a3, h.a4, h.b1, h.b2, h.b3, h.b4, h.c1⟩
theorem Tw.tick_m (h : Tw w wr Bm m Bo o Br r c cm co cr) (hok : Cd.check c = 0) (h64 : I64s c) {a : Option Addr} (cap : Nat) {ins : List Int} (hi : NumsAt wr a ins) (hm : ins.length ≤ maxLen) (hii : ∀ y ∈ ins, Bv.I64 y) :
    Calls Tryz.prog 14 #[.pointer (some ⟨m, 0, none⟩), .slice a ins.length cap] wr (TwP (fun w' => Tw w w' Bm m Bo o Br r c (Ex.tickR c cm ins).2.2.2 co cr) wr m (Ex.tickR c cm ins)) := by
  obtain ⟨iv, nv, kv, bv, iv2, nv2, kv2, bv2, ka, kc, ia, ic, ba, bc, cv, h⟩ := h
  refine (xtick_any h.M hok h64 cap hi hm hii).mono ?_
  rintro e w' ⟨hk, ⟨nv', hM', hn⟩, hv⟩
  have hml := gl h.M.row
  have hol := gl h.O.row
  have hrl := gl h.R.row
  have e1 := h.M.mb
  have e2 := h.lo
  refine ⟨⟨iv, nv', kv, bv, iv2, nv2, kv2, bv2, ka, kc, ia, ic, ba, bc, cv, Kp.grown h.gw hk (fun k hk => by simp at hk; omega), hM', h.O.kp hk (by simp; exact fun e => h.mo e.symm) (h.b1.sub (by simp)) (h.b2.sub (by simp)) (h.b3.sub (by simp)) (h.b4.sub (by simp)), h.R.kp hk (by simp; exact fun e => h.mr e.symm) (h.c1.sub (by simp)) (fun k hk => by simp at hk; omega), h.mo, h.mr, h.or_, h.lo, h.a1, h.a2.next (w := wr) (fun k hk => by simp at hk; omega) hn, h.a3, h.a4, h.b1, h.b2, h.b3, h.b4, h.c1⟩, hk, hv⟩
theorem Tw.tick_o (h : Tw w wr Bm m Bo o Br r c cm co cr) (hok : Cd.check c = 0) (h64 : I64s c) {a : Option Addr} (cap : Nat) {ins : List Int} (hi : NumsAt wr a ins) (hm : ins.length ≤ maxLen) (hii : ∀ y ∈ ins, Bv.I64 y) :
    Calls Tryz.prog 14 #[.pointer (some ⟨o, 0, none⟩), .slice a ins.length cap] wr (TwP (fun w' => Tw w w' Bm m Bo o Br r c cm (Ex.tickR c co ins).2.2.2 cr) wr o (Ex.tickR c co ins)) := by
  obtain ⟨iv, nv, kv, bv, iv2, nv2, kv2, bv2, ka, kc, ia, ic, ba, bc, cv, h⟩ := h
  refine (xtick_any h.O hok h64 cap hi hm hii).mono ?_
  rintro e w' ⟨hk, ⟨nv', hO', hn⟩, hv⟩
  have hml := gl h.M.row
  have hol := gl h.O.row
  have hrl := gl h.R.row
  have e1 := h.O.mb
  have e2 := h.lo
  refine ⟨⟨iv, nv, kv, bv, iv2, nv', kv2, bv2, ka, kc, ia, ic, ba, bc, cv, Kp.grown h.gw hk (fun k hk => by simp at hk; omega), h.M.kp hk (by simp; exact h.mo) (h.a1.sub (by simp)) (h.a2.sub (by simp)) (h.a3.sub (by simp)) (h.a4.sub (by simp)), hO', h.R.kp hk (by simp; exact fun e => h.or_ e.symm) (h.c1.sub (by simp)) (fun k hk => by simp at hk; omega), h.mo, h.mr, h.or_, h.lo, h.a1, h.a2, h.a3, h.a4, h.b1, h.b2.next (w := wr) (fun k hk => by simp at hk; omega) hn, h.b3, h.b4, h.c1⟩, hk, hv⟩
theorem Tw.tick_r (h : Tw w wr Bm m Bo o Br r c cm co cr) (hok : Cd.check c = 0) (h64 : I64s c) {a : Option Addr} (cap : Nat) {ins : List Int} (hi : NumsAt wr a ins) (hm : ins.length ≤ maxLen) (hii : ∀ y ∈ ins, Bv.I64 y) :
    Calls Tryz.prog 15 #[.pointer (some ⟨r, 0, none⟩), .slice a ins.length cap] wr (TwP (fun w' => Tw w w' Bm m Bo o Br r c cm co (Ex.tickR c cr ins).2.2.2) wr r (Ex.tickR c cr ins)) := by
  obtain ⟨iv, nv, kv, bv, iv2, nv2, kv2, bv2, ka, kc, ia, ic, ba, bc, cv, h⟩ := h
  refine (rtick_any h.R hok h64 cap hi hm hii).mono ?_
  rintro e w' ⟨hk, ⟨cv', hR', hn⟩, hv⟩
  have hml := gl h.M.row
  have hol := gl h.O.row
  have hrl := gl h.R.row
  have e1 := h.R.mb
  refine ⟨⟨iv, nv, kv, bv, iv2, nv2, kv2, bv2, ka, kc, ia, ic, ba, bc, cv', Kp.grown h.gw hk (fun k hk => by simp at hk; omega), h.M.kp hk (by simp; exact h.mr) (h.a1.sub (by simp)) (h.a2.sub (by simp)) (h.a3.sub (by simp)) (h.a4.sub (by simp)), h.O.kp hk (by simp; exact h.or_) (h.b1.sub (by simp)) (h.b2.sub (by simp)) (h.b3.sub (by simp)) (h.b4.sub (by simp)), hR', h.mo, h.mr, h.or_, h.lo, h.a1, h.a2, h.a3, h.a4, h.b1, h.b2, h.b3, h.b4, h.c1.next (w := wr) (fun k hk => by simp at hk; omega) hn⟩, hk, hv⟩
end
theorem same21_yes (w : World) (l : List Int) (aa ab : Option Addr) (ca cb : Nat) (hl : NumsAt w aa l) (hm : NumsAt w ab l) (h1 : l.length ≤ maxLen) :
    Calls Tryz.prog 16 #[.slice aa l.length ca, .slice ab l.length cb] w fun e w' => e = .returned (.bool true) ∧ w.grownBy w' none :=
  (same21_any w l l aa ab ca cb hl hm h1 h1).mono fun _ _ H => ⟨by rw [H.1]; simp, H.2⟩
theorem Ex.tickR_len {c : Cd.Code} (hok : Cd.check c = 0) (cells ins : List Int) : (Ex.tickR c cells ins).1.length ≤ 8000 := by
  have h := Ex.ok_parts hok
  unfold Ex.tickR
  split
  · simp only [Ex.outsOf, List.length_take]
    omega
  · simp
theorem Tw.rlt {w wr : World} {Bm m Bo o Br r : Nat} {c : Cd.Code} {cm co cr : List Int} (h : Tw w wr Bm m Bo o Br r c cm co cr) : m < wr.heap.size ∧ o < wr.heap.size ∧ r < wr.heap.size := by
  obtain ⟨_, _, _, _, _, _, _, _, _, _, _, _, _, _, _, h⟩ := h
  exact ⟨gl h.M.row, gl h.O.row, gl h.R.row⟩
/-- the box of the code that came in -/
def Bw (w : World) (bx : Nat) (row : Array Value) (V : World) : Prop := w.grownBy V none ∧ V.heap[bx]? = some (.cells row 25 (0, 0))
theorem Bw.on {w V V' : World} {bx : Nat} {row : Array Value} (h : Bw w bx row V) (hg : V.grownBy V' none) : Bw w bx row V' := ⟨h.1.trans hg, (hg.block bx (gl h.2) (by simp)).trans h.2⟩
end Go.Proofs.YtlppifnepckpiaaGreat
