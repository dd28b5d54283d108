/- Package code: zigzag; numbers as bytes behind bytes. -/
import Derived.Test.YtcjainfcndlllaaCeQ
import Derived.Test.YtcjainfcndlllaaCfM
import Derived.Maps.AppendAt
import Derived.ArgAppend
namespace Go.Proofs.Ytcjainfcndlllaa
open Go.RowKit Go.Maps Go.WideMaps

theorem zz (n : Int) (h : Cd.I64 n) : bits .xor .u64 (IntKind.u64.wrap (IntKind.u64.wrap n * 2)) (IntKind.u64.wrap (n / 9223372036854775808)) = ((Cd.zig n : Nat) : Int) := by
  have h' := h
  unfold Cd.I64 at h'
  by_cases h0 : n < 0
  · have e : IntKind.u64.wrap (IntKind.u64.wrap n * 2) = (((18446744073709551616 + 2 * n).toNat : Nat) : Int) := by
      rw [u64w, u64w]
      omega
    have e2 : IntKind.u64.wrap (n / 9223372036854775808) = ((18446744073709551615 : Nat) : Int) := by
      rw [u64w]
      omega
    rw [e, e2, u64_xor_nat _ _ (by omega) (by decide), Nat.xor_comm, not64 _ (by omega)]
    unfold Cd.zig
    rw [if_neg (by omega)]
    omega
  · have e2 : IntKind.u64.wrap (n / 9223372036854775808) = ((0 : Nat) : Int) := by
      rw [u64w]
      omega
    rw [zig_pos n h h0, e2, u64_xor_nat _ _ (Cd.zig_lt h) (by decide), Nat.xor_zero]
theorem zigzag_any (n : Int) (hn : Cd.I64 n) (w : World) : Calls Try.prog 61 #[.int .i64 n] w fun e w' => e = .returned (.int .u64 ((Cd.zig n : Nat) : Int)) ∧ w' = w := by
  have HZ := Lib.hid (zz n hn)
  go_enter Try.func61, Try.ntmps61
  go_wp2
  rw [HZ.out]
  go_ret
  exact ⟨rfl, rfl⟩
theorem or128 : ∀ a : Fin 256, (a.val ||| 128) = a.val % 128 + 128 := by decide +kernel
theorem or_low (z : Nat) : bits .or .u8 (IntKind.u8.wrap (z : Int)) 128 = ((z % 128 + 128 : Nat) : Int) := by
  have e : IntKind.u8.wrap (z : Int) = ((z % 256 : Nat) : Int) := by
    show (z : Int) % 256 = _
    omega
  rw [e, show (128 : Int) = ((128 : Nat) : Int) from rfl, u8_or_nat _ _ (by omega) (by decide), or128 ⟨z % 256, by omega⟩]
  congr 1
  show z % 256 % 128 + 128 = _
  omega

theorem nums_len : ∀ (l : List Int), (∀ n ∈ l, Cd.I64 n) → (Cd.nums l).length ≤ 10 * l.length
  | [], _ => by simp [Cd.nums]
  | a :: l, h => by
    have h1 := Cd.num_len (h a (by simp))
    have h2 := nums_len l (fun n hn => h n (by simp [hn]))
    rw [Cd.nums_cons, List.length_append, List.length_cons]
    omega
theorem owns_base {w : World} {B B' : Nat} {T : TypeId} {s : Nat} {v : Value} {n : Nat} {xs : List Value} (h : w.ownsRow B T s v n xs) (hb : B' ≤ B) : w.ownsRow B' T s v n xs := by
  refine ⟨h.1, ?_⟩
  rcases h.2 with h1 | ⟨g, cap, cur, h1, h2, h3⟩
  · exact .inl h1
  · exact .inr ⟨g, cap, cur, h1, by omega, h3⟩
/-- bytes of one's own, or new ones without room -/
def Ow (w : World) (B : Nat) (v : Value) (p : List UInt8) : Prop := w.ownsRow B 5 1 v p.length (byteC p) ∨ ∃ g, v = .slice (some ⟨g, 0, none⟩) p.length p.length ∧ B ≤ g ∧ g < w.heap.size ∧ BytesAt w (some ⟨g, 0, none⟩) p
theorem Ow.slice {w : World} {B : Nat} {v : Value} {p : List UInt8} (h : Ow w B v p) : ∃ a c, v = .slice a p.length c := by
  rcases h with h | ⟨g, h, _⟩
  · obtain ⟨a, c, h, _⟩ := BytesAt.own h
    exact ⟨a, c, h⟩
  · exact ⟨_, _, h⟩
theorem Ow.lt {w : World} {B : Nat} {v : Value} {p : List UInt8} (h : Ow w B v p) (k : Nat) (e : v.ownBlock = some k) : B ≤ k ∧ k < w.heap.size := by
  rcases h with h | ⟨g, rfl, h1, h2, _⟩
  · exact h.lt k e
  · obtain rfl := Option.some.inj e
    exact ⟨h1, h2⟩
theorem Ow.alloc {w : World} {B : Nat} {v : Value} {p : List UInt8} (h : Ow w B v p) (o : Obj) : Ow (w.alloc o) B v p := by
  rcases h with h | ⟨g, h0, h1, h2, h3⟩
  · exact .inl (h.alloc o)
  · refine .inr ⟨g, h0, h1, by rw [World.size_alloc]; omega, fun i b hb => ?_⟩
    obtain ⟨g', o', e, hc⟩ := h3 i b hb
    exact ⟨g', o', e, (World.grownBy_alloc w o none).cell hc (by simp)⟩
theorem bytes_at_byteC {w : World} {g : Nat} {p : List UInt8} (h : BytesAt w (some ⟨g, 0, none⟩) p) : ∀ j u, (byteC p)[j]? = some u → w.cell? ((⟨g, 0, none⟩ : Addr).add j) = some u := fun j u hj => by
  unfold byteC at hj
  rw [List.getElem?_map] at hj
  cases hp : p[j]? with
  | none => rw [hp] at hj; cases hj
  | some b =>
    rw [hp] at hj
    obtain rfl := Option.some.inj hj
    obtain ⟨g', o', e, hc⟩ := h j b hp
    cases e
    rw [Addr.add_mid]
    exact hc
/-- one byte more -/
theorem wpList_append_ow {ops : Array Oper} {rest : List Oper} {o : Oper} {a : Act} {Q : Exit → Act → World → Prop} {w : World} (hgd : o.guard = none) (s x : Operand)
    (ho : o.op = .call { callee := .builtin .append, args := #[s, x], argTypes := #[38, 38] }) (B : Nat) (v : Value) (p : List UInt8) (hs : a.eval s = v) (hown : Ow w B v p)
    (ad : Addr) (y : UInt8) (hx : a.eval x = .slice (some ad) 1 1) (hnews : w.cell? (ad.add 0) = some (.int .u8 y.toNat)) (hl : p.length ≤ 1000000000) (hbase : B ≤ w.heap.size)
    (h : ∀ v' w', w'.ownsRow B 5 1 v' (p ++ [y]).length (byteC (p ++ [y])) → w.grownBy w' v.ownBlock → (v'.ownBlock = v.ownBlock ∨ ∃ k, v'.ownBlock = some k ∧ w.heap.size ≤ k) → wpList Try.prog ops Q rest (a.put o.dst v') w') :
    wpList Try.prog ops Q (o :: rest) a w := by
  obtain ⟨i0, hi, hz0, hzs, hzb⟩ := info_parts info_u8
  have e1 : byteC p ++ [Value.int .u8 y.toNat] = byteC (p ++ [y]) := by unfold byteC; simp
  have e2 : p.length + 1 = (p ++ [y]).length := by simp
  have hn : ∀ j u, [Value.int .u8 (y.toNat : Int)][j]? = some u → w.cell? (ad.add j) = some u := fun j u hj => by
    cases j with
    | zero => simp at hj; subst hj; exact hnews
    | succ j => simp at hj
  rcases hown with hown | ⟨g, rfl, h1, h2, h3⟩
  · refine wpList_append_own_at w hgd s x 38 ho B 5 i0 _ 1 1 Try.underlying38 hi hz0 hzs hzb rfl (by decide) v p.length (byteC p) hs hown ad 1 1 [.int .u8 y.toNat] hx rfl hn (by intro u hu; simp at hu; subst hu; rfl) (by unfold maxLen; omega) (by omega) hbase ?_
    intro v' w' ho' hg' _ hat
    rw [e1, e2] at ho'
    refine h v' w' ho' hg' ?_
    rcases hat with hat | hat
    · exact .inl hat
    · exact .inr ⟨_, hat, Nat.le_refl _⟩
  · refine wpList_append_grows w hgd s x 38 ho 5 i0 _ 1 1 Try.underlying38 hi hz0 hzs hzb rfl (by decide) _ p.length p.length (byteC p) hs (fun e => by cases e) (by unfold byteC; simp) (fun b hb j u hj => ?_) ad 1 1 [.int .u8 y.toNat] hx rfl hn (by intro u hu; simp at hu; subst hu; rfl) (by omega) (by unfold maxLen; omega) (by omega) ?_
    · cases hb
      exact bytes_at_byteC h3 j u hj
    · intro v' w' ho' hg'
      rw [e1, e2] at ho'
      have hg2 : w.grownBy w' (Value.slice (some ⟨g, 0, none⟩) p.length p.length).ownBlock := ⟨hg'.os, hg'.tape, hg'.output, hg'.size, fun k hk _ => hg'.block k hk (by simp)⟩
      refine h v' w' (owns_base ho' hbase) hg2 (.inr ?_)
      rcases ho'.2 with ⟨_, h0⟩ | ⟨g', cap, cur, rfl, h5, _⟩
      · simp at h0
      · exact ⟨g', rfl, h5⟩
/-- numbers in memory, and bytes of one's own apart from them -/
structure An (W0 w : World) (na : Option Addr) (l : List Int) (v : Value) (p : List UInt8) : Prop where
  grown : W0.grownBy w none
  own : Ow w W0.heap.size v p
  nums : NumsAt w na l
  ne : ∀ b o, na = some ⟨b, o, none⟩ → l ≠ [] → v.ownBlock ≠ some b
theorem An.step {W0 w w3 : World} {na : Option Addr} {l : List Int} {v v' : Value} {p p' : List UInt8} (h : An W0 w na l v p) {o : Obj} (hg : (w.alloc o).grownBy w3 v.ownBlock) (hown : w3.ownsRow W0.heap.size 5 1 v' p'.length (byteC p')) (hv : v'.ownBlock = v.ownBlock ∨ ∃ k, v'.ownBlock = some k ∧ (w.alloc o).heap.size ≤ k) : An W0 w3 na l v' p' := by
  have hlt : ∀ k, v.ownBlock = some k → W0.heap.size ≤ k := fun k e => (h.own.lt k e).1
  refine ⟨grown_over (h.grown.trans (World.grownBy_alloc w o none)) hg hlt, .inl hown, fun i n hi => ?_, fun b o' e hl => ?_⟩
  · obtain ⟨b, o', e, hc⟩ := h.nums i n hi
    have hne := h.ne b o' e (fun e2 => by rw [e2] at hi; simp at hi)
    exact ⟨b, o', e, hg.cell ((World.grownBy_alloc w o none).cell hc (by simp)) (fun e2 => hne e2.symm)⟩
  · rcases hv with e2 | ⟨k, e2, hk⟩
    · rw [e2]; exact h.ne b o' e hl
    · rw [e2]
      cases l with
      | nil => exact absurd rfl hl
      | cons a l =>
        obtain ⟨b2, o2, e3, hc⟩ := h.nums 0 a rfl
        rw [e] at e3
        cases e3
        have := lt_of_cell? hc
        rw [World.size_alloc] at hk
        intro e4
        have := Option.some.inj e4
        omega

/-- what appendNumbers leaves -/
def ApP (W0 : World) (v : Value) (p : List UInt8) (l : List Int) (w : World) (e : Ending) (w' : World) : Prop := ∃ v', e = .returned v' ∧ W0.grownBy w' none ∧ Ow w' W0.heap.size v' (p ++ Cd.nums l) ∧ ((l ≠ [] ∨ w.ownsRow W0.heap.size 5 1 v p.length (byteC p)) → w'.ownsRow W0.heap.size 5 1 v' (p ++ Cd.nums l).length (byteC (p ++ Cd.nums l)))

set_option maxHeartbeats 4000000 in
set_option maxRecDepth 20000 in
theorem appendNumbers_any (W0 : World) (w : World) (na : Option Addr) (nc : Nat) (l : List Int) (v : Value) (p : List UInt8) (h : An W0 w na l v p) (hI : ∀ n ∈ l, Cd.I64 n) (hb : p.length + 10 * l.length ≤ 1000000000) :
    Calls Try.prog 34 #[v, .slice na l.length nc] w (ApP W0 v p l w) := by
  have HI := Lib.hid (And.intro hI hb)
  have HA := Lib.hid h
  clear h hI
  obtain ⟨N, hN⟩ : ∃ N, N = l.length := ⟨_, rfl⟩
  rw [← hN] at hb ⊢
  have HN := Lib.hid hN
  clear hN
  have hzg := fun n hn V => zigzag_any n hn V
  have hN1 : N ≤ 9223372036854775807 := by omega
  clear hb
  obtain ⟨a0, c0, rfl⟩ := HA.out.own.slice
  go_enter Try.func34, Try.ntmps34
  go_wp2
  go_loopw [0, 10] (fun bv iv wr => ∃ (t : Nat), t ≤ N ∧ iv = .int .i64 (t : Int) ∧ Hid (An W0 wr na l bv (p ++ Cd.nums (l.take t)) ∧ ((0 < t ∨ w.ownsRow W0.heap.size 5 1 (.slice a0 p.length c0) p.length (byteC p)) → wr.ownsRow W0.heap.size 5 1 bv (p ++ Cd.nums (l.take t)).length (byteC (p ++ Cd.nums (l.take t)))))) (fun _ i _ => N - (intOf i).toNat)
  case atStart => exact ⟨0, Nat.zero_le _, rfl, Lib.hid ⟨by simpa [Cd.nums] using HA.out, fun h => by
    rcases h with h | h
    · omega
    · simpa [Cd.nums] using h⟩⟩
  case round =>
    obtain ⟨t, ht, rfl, HT⟩ := hrel
    obtain ⟨P0, hP0⟩ : ∃ P0, P0 = p ++ Cd.nums (l.take t) := ⟨_, rfl⟩
    rw [← hP0] at HT
    obtain ⟨a1, c1, hbv⟩ := HT.out.1.own.slice
    subst hbv
    have HP0 := Lib.hid hP0
    clear hP0
    by_cases hlt : t < N
    · obtain ⟨x, hx⟩ : ∃ x, l[t]? = some x := ⟨_, List.getElem?_eq_getElem (by rw [← HN.out]; exact hlt)⟩
      obtain ⟨b1, o1, rfl, hc1⟩ := HT.out.1.nums t x hx
      have hx64 := HI.out.1 x (List.mem_iff_getElem?.2 ⟨_, hx⟩)
      have hzx := fun V => hzg x hx64 V
      have HX := Lib.hid (And.intro hx hx64)
      clear hx hx64
      go_wp2_with (go_at_call 61; refine (hzx _).mono ?_; rintro e w' ⟨rfl, hw'⟩; obtain rfl := hw'.symm)
      have HNA := Lib.hid HT.out.1
      obtain ⟨z0, hz0'⟩ : ∃ z0, z0 = Cd.zig x := ⟨_, rfl⟩
      have hzl : z0 < 18446744073709551616 := by rw [hz0']; exact Cd.zig_lt HX.out.2
      have HL10 : Hid ((Cd.bytes z0).length ≤ 10) := Lib.hid (by rw [hz0']; exact Cd.num_len HX.out.2)
      have HZN : Hid (Cd.num x = Cd.bytes z0) := Lib.hid (by rw [hz0']; rfl)
      have HLP0 : Hid (P0.length + 10 ≤ 1000000000) := Lib.hid (by
        have h1 := HI.out.2
        have h2 := HN.out
        have h3 := nums_len (l.take t) (fun n hn => HI.out.1 n (List.mem_of_mem_take hn))
        rw [HP0.out, List.length_append]
        rw [List.length_take] at h3
        omega)
      rw [← hz0']
      clear hz0' hc1 hzx
      go_loopw [0, 7] (fun bv zv wr2 => ∃ (z : Nat) (q : List UInt8), zv = .int .u64 (z : Int) ∧ z < 18446744073709551616 ∧ Hid (An W0 wr2 (some ⟨b1, o1, none⟩) l bv (P0 ++ q) ∧ q ++ Cd.bytes z = Cd.bytes z0)) (fun _ zv _ => (intOf zv).toNat)
      case atStart => exact ⟨z0, [], rfl, hzl, Lib.hid ⟨by simpa using HT.out.1, rfl⟩⟩
      case round =>
        obtain ⟨z, q, rfl, hz, HP⟩ := hrel
        clear hzl
        by_cases h1 : z < 128
        · have e1 : decide ((128 : Int) ≤ (z : Int)) = false := by rw [decide_eq_false_iff_not]; omega
          have ew : IntKind.u8.wrap (z : Int) = (z : Int) := by show (z : Int) % 256 = _; omega
          have hB : ((z : Int) : Int) = ((UInt8.ofNat z).toNat : Int) := by simp; omega
          have hz1 := HP.out.1.own.alloc (.cells #[.int .u8 ((z : Int))] 5)
          have HLP := Lib.hid (show (P0 ++ q).length ≤ 1000000000 by have h1 := congrArg List.length HP.out.2; rw [List.length_append] at h1; have h2 := HL10.out; have h3 := HLP0.out; rw [List.length_append]; omega)
          obtain ⟨Q0, hQ0⟩ : ∃ Q0, Q0 = P0 ++ q := ⟨_, rfl⟩
          rw [← hQ0] at HP HLP hz1
          obtain ⟨a2, c2, hbv⟩ := HP.out.1.own.slice
          subst hbv
          have HQ0 := Lib.hid hQ0
          clear hQ0
          have HBY := Lib.hid hB
          clear hB
          go_wp2_with (at_builtin; refine Hid.out ?_)
          refine Lib.hid ?_
          refine wpList_append_ow rfl _ _ rfl W0.heap.size _ Q0 rfl hz1 ⟨wr.heap.size, 0, none⟩ (UInt8.ofNat z) rfl (by rw [← HBY.out]; exact row_cells (heap_alloc_new wr _) 0 _ rfl) HLP.out (by have := HP.out.1.grown.size; rw [World.size_alloc]; omega) ?_
          intro v' w3 hown' hgr hat
          have HOWN := Lib.hid hown'
          have HF := Lib.hid (HP.out.1.step hgr hown' hat)
          clear hown' hgr hat hz1
          have HE : Hid (Q0 ++ [UInt8.ofNat z] = p ++ Cd.nums (l.take (t + 1))) := Lib.hid (by
            rw [List.take_add_one, HX.out.1, HQ0.out, HP0.out]
            simp only [Option.toList_some, Cd.nums_append]
            have h2 := HP.out.2
            rw [Cd.bytes_small h1] at h2
            rw [Cd.nums_cons, HZN.out, ← h2]
            simp [Cd.nums])
          go_wp2
          refine ⟨⟨t + 1, by omega, by go_num, Lib.hid ?_⟩, by simp [intOf]; omega⟩
          rw [← HE.out]
          exact ⟨HF.out, fun _ => HOWN.out⟩
        · have e1 : decide ((128 : Int) ≤ (z : Int)) = true := by rw [decide_eq_true_iff]; omega
          have hor : bits .or .u8 ((z : Int) % 256) 128 = (z : Int) % 128 + 128 := by
            have := or_low z
            rw [u8w] at this
            rw [this]
            omega
          have hB : ((z : Int) % 128 + 128 : Int) = ((UInt8.ofNat (z % 128 + 128)).toNat : Int) := by simp; omega
          have hz1 := HP.out.1.own.alloc (.cells #[.int .u8 ((z : Int) % 128 + 128)] 5)
          have HLP := Lib.hid (show (P0 ++ q).length ≤ 1000000000 by have h1 := congrArg List.length HP.out.2; rw [List.length_append] at h1; have h2 := HL10.out; have h3 := HLP0.out; rw [List.length_append]; omega)
          obtain ⟨Q0, hQ0⟩ : ∃ Q0, Q0 = P0 ++ q := ⟨_, rfl⟩
          rw [← hQ0] at HP HLP hz1
          obtain ⟨a2, c2, hbv⟩ := HP.out.1.own.slice
          subst hbv
          have HQ0 := Lib.hid hQ0
          clear hQ0
          have HBY := Lib.hid hB
          clear hB
          go_wp2_with (at_builtin; refine Hid.out ?_)
          refine Lib.hid ?_
          refine wpList_append_ow rfl _ _ rfl W0.heap.size _ Q0 rfl hz1 ⟨wr.heap.size, 0, none⟩ (UInt8.ofNat (z % 128 + 128)) rfl (by rw [← HBY.out]; exact row_cells (heap_alloc_new wr _) 0 _ rfl) HLP.out (by have := HP.out.1.grown.size; rw [World.size_alloc]; omega) ?_
          intro v' w3 hown' hgr hat
          have HOWN := Lib.hid hown'
          have HF := Lib.hid (HP.out.1.step hgr hown' hat)
          clear hown' hgr hat hz1
          have HE : Hid (q ++ [UInt8.ofNat (z % 128 + 128)] ++ Cd.bytes (z / 128) = Cd.bytes z0) := Lib.hid (by rw [← HP.out.2, Cd.bytes_big h1]; simp)
          have HF2 : Hid (An W0 w3 (some ⟨b1, o1, none⟩) l v' (P0 ++ (q ++ [UInt8.ofNat (z % 128 + 128)]))) := Lib.hid (by
            have := HF.out
            rw [HQ0.out, List.append_assoc] at this
            exact this)
          clear HF hor
          go_wp2
          refine ⟨⟨z / 128, q ++ [UInt8.ofNat (z % 128 + 128)], by go_num, by omega, Lib.hid ⟨HF2.out, HE.out⟩⟩, ?_⟩
          simp [intOf]
          omega
    · obtain rfl : t = N := by omega
      have HF : Hid (W0.grownBy wr none ∧ Ow wr W0.heap.size (.slice a1 P0.length c1) (p ++ Cd.nums l) ∧ ((l ≠ [] ∨ w.ownsRow W0.heap.size 5 1 (.slice a0 p.length c0) p.length (byteC p)) → wr.ownsRow W0.heap.size 5 1 (.slice a1 P0.length c1) (p ++ Cd.nums l).length (byteC (p ++ Cd.nums l)))) := Lib.hid (by
        have e := HP0.out
        rw [HN.out, List.take_length] at e
        rw [← e]
        refine ⟨HT.out.1.grown, HT.out.1.own, fun h => HT.out.2 ?_⟩
        rcases h with h | h
        · left
          have := HN.out
          have := List.length_pos_iff.2 h
          omega
        · exact .inr h)
      go_wp2
      go_ret
      exact ⟨_, rfl, HF.out⟩
end Go.Proofs.Ytcjainfcndlllaa
