/- The document's own machine (metronomeref19): Tick (written by mkexj.py). -/
import Derived.Test.YthcejnfnamhpfaaGreatExI
import Derived.BigQuiet
import Derived.Test.YthcejnfnamhpfaaGreatJnB
import Derived.Test.YthcejnfnamhpfaaGreatJnC
namespace Go.Proofs.YthcejnfnamhpfaaGreat
open Go.RowKit Go.Maps Go.WideMaps

/-- what its Tick leaves -/
def RTickP (W : World) (B : Nat) (w : World) (m : Nat) (c : Cd.Code) (cells ins : List Int) (ka : Option Addr) (kc : Nat) (ia : Option Addr) (ic : Nat) (ba : Option Addr) (bc : Nat) (cv : Value) (e : Ending) (w' : World) : Prop :=
  Kp [m] w w' ∧ (∃ cv', RMachR W B w' m c (Ex.tickR c cells ins).2.2.2 ka kc ia ic ba bc cv' ∧ (cv' = cv ∨ ∀ k, cv'.ownBlock = some k → w.heap.size ≤ k)) ∧ ∃ v, e = .returned (.tuple #[v, .int .i64 ((Ex.tickR c cells ins).2.1 : Int), .int .i64 (Ex.tickR c cells ins).2.2.1]) ∧ w'.ownsRow w.heap.size 3 1 v (Ex.tickR c cells ins).1.length (ints (Ex.tickR c cells ins).1)

/-- what the second loop keeps: n instructions were run -/
structure RLp (w wr : World) (g b7 : Nat) (row : Array Value) (c : Cd.Code) (R : List Int × Nat) (pc : Nat) (val s : List Int) (sv : Value) (n : Nat) : Prop where
  gw : w.grownBy wr none
  gl : w.heap.size ≤ g
  bl : w.heap.size ≤ b7
  gb : b7 ≠ g
  rg : wr.heap[g]? = some (.cells (ints val).toArray 3 (0, 0))
  rb : wr.heap[b7]? = some (.cells row 25 (0, 0))
  own : wr.ownsRow w.heap.size 3 1 sv s.length (ints s)
  og : sv.ownBlock ≠ some g ∧ sv.ownBlock ≠ some b7
  le : n ≤ pc
  vl : val.length = c.kinds.length
  sl : s.length ≤ 64
  vi : ∀ y ∈ val, Bv.I64 y
  si : ∀ y ∈ s, Bv.I64 y
  at_ : Ex.At c pc s.length
  fin : ∃ f, Ex.fin c.body f pc val s n = R ∧ c.body.length ≤ f + pc
section
variable {w wr W' : World} {g b7 : Nat} {row : Array Value} {c : Cd.Code} {R : List Int × Nat} {pc : Nat} {val s : List Int} {sv sv' : Value} {n : Nat}
/-- an instruction is done -/
theorem RLp.next {x : Cd.Ins} (h : RLp w wr g b7 row c R pc val s sv n) (hok : Cd.check c = 0) (h64 : I64s c) (hx : c.body[pc]? = some x) (hf : Ex.Fine c x pc val s) (hn : x.op ≠ 9 → Ex.At c (Ex.nxt x pc s) (Ex.deed x val s).2.length) (h9 : x.op ≠ 9)
    (hk : To g g wr sv W' sv') (hg : W'.heap[g]? = some (.cells (ints (Ex.deed x val s).1).toArray 3 (0, 0))) (ho : W'.ownsRow w.heap.size 3 1 sv' (Ex.deed x val s).2.length (ints (Ex.deed x val s).2)) :
    RLp w W' g b7 row c R (Ex.nxt x pc s) (Ex.deed x val s).1 (Ex.deed x val s).2 sv' (n + 1) := by
  obtain ⟨o1, o2, o3, _⟩ := Ex.ok_parts hok
  have hpc : pc < c.body.length := (List.getElem?_eq_some_iff.1 hx).1
  have hi := Ex.deed_i64 (h64.2.2.2.2.2.2.1 x (List.mem_of_getElem? hx)).2.1 h.vi h.si
  obtain ⟨k1, k2⟩ := hk.lt (_root_.Go.Proofs.YthcejnfnamhpfaaGreat.gl h.rb) h.gb h.gb h.og.2
  obtain ⟨f, hR, hfl⟩ := h.fin
  have h1 := h.le
  have h2 := Ex.nxt_up x pc s
  have hroom := hf.room
  obtain ⟨f', rfl⟩ : ∃ f', f = f' + 1 := ⟨f - 1, by omega⟩
  rw [Ex.fin, hx] at hR
  simp only at hR
  rw [if_neg h9] at hR
  refine ⟨Kp.grown h.gw hk.kp (fun k hk' => ?_), h.gl, h.bl, h.gb, hg, k1.trans h.rb, ho, ⟨?_, k2⟩, by omega, (Ex.deed_len x val s).trans h.vl, by omega, hi.1, hi.2, hn h9, f', hR, by omega⟩
  · simp only [List.mem_cons, Option.mem_toList] at hk'
    rcases hk' with rfl | rfl | e
    · exact h.gl
    · exact h.gl
    · exact (h.own.lt k e).1
  · rcases hk.own with e | ⟨j, e, hj⟩
    · rw [e]; exact h.og.1
    · rw [e]
      intro e2
      have := Option.some.inj e2
      have := _root_.Go.Proofs.YthcejnfnamhpfaaGreat.gl h.rg
      omega
/-- the end -/
theorem RLp.ends {x : Cd.Ins} (h : RLp w wr g b7 row c R pc val s sv n) (hx : c.body[pc]? = some x) (h9 : x.op = 9) : R = (val, n + 1) := by
  have hpc : pc < c.body.length := (List.getElem?_eq_some_iff.1 hx).1
  obtain ⟨f, hR, hfl⟩ := h.fin
  obtain ⟨f', rfl⟩ : ∃ f', f = f' + 1 := ⟨f - 1, by omega⟩
  rw [Ex.fin, hx] at hR
  simp only at hR
  rw [if_pos h9] at hR
  exact hR.symm
end
/-- a number at the end of what one owns -/
theorem owns_set {w : World} {B : Nat} {b c : Nat} {r : List Int} {y : Int} (z : Int) (h : w.ownsRow B 3 1 (.slice (some ⟨b, 0, none⟩) (r ++ [y]).length c) (r ++ [y]).length (ints (r ++ [y]))) : (w.setCell ⟨b, r.length, none⟩ (.int .i64 z)).ownsRow B 3 1 (.slice (some ⟨b, 0, none⟩) (r ++ [z]).length c) (r ++ [z]).length (ints (r ++ [z])) := by
  rcases h.2 with ⟨h0, _⟩ | ⟨g, cap, cur, h0, h1, h2, h3, h4, h5, h6⟩
  · cases h0
  · cases h0
    refine ⟨by simp [ints], .inr ⟨_, _, _, rfl, h1, setrow (.int .i64 z) (j := r.length) h2, by simpa using h3, h4, by simpa using h5, ?_⟩⟩
    have hl : r.length < cur.toList.length := by simp at h3 h5 ⊢; omega
    rw [Array.toList_setIfInBounds]
    have e1 : (cur.toList.set r.length (Value.int .i64 z)).take ((r ++ [z]).length * 1) = (cur.toList.take ((r ++ [y]).length * 1)).set r.length (Value.int .i64 z) := by
      rw [List.take_set]
      simp
    rw [e1, h6]
    simp [ints]

theorem RLp.lt {w wr : World} {g b7 : Nat} {row : Array Value} {c : Cd.Code} {R : List Int × Nat} {pc : Nat} {val s : List Int} {sv : Value} {n : Nat} (h : RLp w wr g b7 row c R pc val s sv n) (hok : Cd.check c = 0) : pc < c.body.length := by
  obtain ⟨x, hx, _⟩ := h.at_.fine (val := val) hok h.vl
  exact (List.getElem?_eq_some_iff.1 hx).1
/-- .. as the walk carries it -/
def Nx (w : World) (g b7 : Nat) (row : Array Value) (c : Cd.Code) (R : List Int × Nat) (nb n pc l : Nat) (sa : Option Addr) (sc : Nat) (wr : World) : Prop := n ≤ pc ∧ pc < nb ∧ l ≤ 64 ∧ ∃ val s, s.length = l ∧ RLp w wr g b7 row c R pc val s (.slice sa l sc) n
theorem Nx.of {w wr : World} {g b7 : Nat} {row : Array Value} {c : Cd.Code} {R : List Int × Nat} {nb pc pc' l : Nat} {val s : List Int} {sa : Option Addr} {sc n n' : Nat} (h : RLp w wr g b7 row c R pc' val s (.slice sa l sc) n') (hok : Cd.check c = 0) (hnb : c.body.length = nb) (hl : s.length = l) (hp : pc' = pc) (hn : n' = n) : Nx w g b7 row c R nb n pc l sa sc wr := by
  subst hl hp hn
  exact ⟨h.le, by rw [← hnb]; exact h.lt hok, h.sl, val, s, rfl, h⟩
theorem own_top {V : World} {B : Nat} {sa : Option Addr} {l sc : Nat} {r : List Int} {y : Int} (h : V.ownsRow B 3 1 (.slice sa l sc) (r ++ [y]).length (ints (r ++ [y]))) : ∃ sb, sa = some ⟨sb, 0, none⟩ ∧ V.cell? ⟨sb, r.length, none⟩ = some (.int .i64 y) ∧ V.frozen? ⟨sb, r.length, none⟩ = false ∧ (r ++ [y]).length ≤ sc := by
  rcases h.2 with ⟨_, h0⟩ | ⟨g2, cap2, cur2, e2, _, hz, hc, _⟩
  · simp at h0
  · have := h.cells (g := g2) (by rw [e2]; rfl) r.length (.int .i64 y) (by simp)
    rw [addr_at, Nat.zero_add] at this
    injection e2 with e3 e4 e5
    exact ⟨g2, e3, this, frozen_of_row V _ r.length _ _ hz, by rw [e5]; exact hc⟩
theorem drewc {w V : World} {a : Addr} {v : Value} (h : w.cell? a = some v) (hV : V = w.drew) : V.cell? a = some v := by rw [hV]; exact h
theorem to_push {wr V0 w3 : World} {g : Nat} {sv0 sv v' : Value} (hT : To g g wr sv0 V0 sv) {ob : Obj} (hgr : (V0.alloc ob).grownBy w3 sv.ownBlock) (hat : v'.ownBlock = sv.ownBlock ∨ v'.ownBlock = some (V0.alloc ob).heap.size) : To g g wr sv0 w3 v' := by
  refine hT.trans ⟨(Kp.of0 (World.grownBy_alloc V0 ob none) _).trans (Kp.of hgr _ (fun k e _ => by rw [e]; simp)), ?_⟩
  rcases hat with e | e
  · exact .inl e
  · exact .inr ⟨_, e, by simp⟩
theorem rg_push {V0 w3 : World} {g : Nat} {sv : Value} {x : Obj} {ob : Obj} (hg : V0.heap[g]? = some x) (hn : sv.ownBlock ≠ some g) (hgr : (V0.alloc ob).grownBy w3 sv.ownBlock) : w3.heap[g]? = some x :=
  (hgr.block g (by have := gl hg; simp; omega) (fun e => hn e.symm)).trans ((heap_alloc_old V0 ob (gl hg)).trans hg)

set_option maxHeartbeats 8000000 in
set_option maxRecDepth 100000 in
theorem rtick_any {W : World} {B : Nat} {w : World} {m : Nat} {c : Cd.Code} {cells : List Int} {ka : Option Addr} {kc : Nat} {ia : Option Addr} {ic : Nat} {ba : Option Addr} {bc : Nat} {cv : Value} (hM : RMachR W B w m c cells ka kc ia ic ba bc cv) (hok : Cd.check c = 0) (h64 : I64s c) {a : Option Addr} (cap : Nat) {ins : List Int} (hi : NumsAt w a ins) (hm : ins.length ≤ maxLen) (hii : ∀ y ∈ ins, Bv.I64 y) :
    Calls Tryz.prog 15 #[.pointer (some ⟨m, 0, none⟩), .slice a ins.length cap] w (RTickP W B w m c cells ins ka kc ia ic ba bc cv) := by
  have h := hM
  clear hM
  obtain ⟨na, nc, rfl, hna⟩ := NumsAt.own h.now
  obtain ⟨o1, o2, o3, o4, o5, o6, o7, o8, o9, o10, o11, _⟩ := Ex.ok_parts hok
  have HH := Lib.hid (And.intro h (And.intro hok (And.intro h64 (And.intro hi (And.intro hii hna)))))
  obtain ⟨i, hx_i⟩ : ∃ n : Nat, c.ins = n := ⟨c.ins.toNat, by omega⟩
  obtain ⟨o, hx_o⟩ : ∃ n : Nat, c.outs = n := ⟨c.outs.toNat, by omega⟩
  obtain ⟨e, hx_e⟩ : ∃ n : Nat, c.cells = n := ⟨c.cells.toNat, by omega⟩
  obtain ⟨x4, hx4⟩ : ∃ n, c.stack = n := ⟨_, rfl⟩
  obtain ⟨K, h_K⟩ : ∃ n, c.kinds.length = n := ⟨_, rfl⟩
  obtain ⟨ni, h_ni⟩ : ∃ n, c.init.length = n := ⟨_, rfl⟩
  obtain ⟨nb, h_nb⟩ : ∃ n, c.body.length = n := ⟨_, rfl⟩
  have hce : cells.length = e := by have := h.cl; omega
  have hrow := h.row
  rw [h_K, h_ni, h_nb, hx_i, hx_o, hx_e, hx4, hce] at hrow
  have hmb : W.heap.size ≤ m := Nat.le_trans h.mb.1 h.mb.2
  have HX := Lib.hid (And.intro hx_i (And.intro hx_o (And.intro hx_e (And.intro hx4 (And.intro h_K (And.intro h_ni (And.intro h_nb hce)))))))
  have hKb : K ≤ 8000 := by omega
  have hnb : nb ≤ 60000 := by omega
  have hKi : i + o + e ≤ K := by omega
  obtain ⟨b7, hb7⟩ : ∃ b, b = w.heap.size := ⟨_, rfl⟩
  have c0 := cell_of_row w m 0 _ _ _ hrow
  have c1 := cell_of_row w m 1 _ _ _ hrow
  have c2 := cell_of_row w m 2 _ _ _ hrow
  have c3 := cell_of_row w m 3 _ _ _ hrow
  have c4 := cell_of_row w m 4 _ _ _ hrow
  have c5 := cell_of_row w m 5 _ _ _ hrow
  have c6 := cell_of_row w m 6 _ _ _ hrow
  clear h hi hna h64 hx_i hx_o hx_e hx4 h_ni h_nb o1 o2 o3 o4 o5 o6 o7 o8 o9 o10 o11 hok hii hce h_K
  by_cases hil : ins.length = i
  · rw [hil]
    have HIL := Lib.hid hil
    clear hil hm
    have hi8 : i ≤ 8000 := by omega
    go_enter Tryz.func15, Tryz.ntmps15
    go_upto_region 4 with fail
    refine wp_asx (fun W1 hW1 => ?_)
    have hg1 : w.grownBy W1 none := by rw [hW1]; exact World.grownBy_alloc w _ none
    have hr1 : W1.heap[b7]? = some (.cells #[.slice ka K kc, .int .i64 (i : Int), .int .i64 (o : Int), .int .i64 (e : Int), .int .i64 x4, .slice ia ni ic, .slice ba nb bc] 25 (0, 0)) := by rw [hW1, hb7]; exact heap_alloc_new w _
    rw [← hb7]
    have H1 := Lib.hid (And.intro hg1 (And.intro hr1 (And.intro hrow hb7)))
    have hmb7 : m ≠ b7 := by have := gl hrow; omega
    clear hW1 hb7 hg1 hr1 hrow c0 c1 c2 c3 c4 c5 c6
    have his := fun k x V => ris_any k x V
    go_wp2
    go_loopw [8] (fun iv wr => ∃ t : Nat, t ≤ i ∧ iv = .int .i64 (t : Int) ∧ Hid (W1.grownBy wr none ∧ ∀ (j : Nat) (x k : Int), j < t → ins[j]? = some x → c.kinds[j]? = some k → Bv.isv k x = true)) (fun iv _ => i - (intOf iv).toNat)
    case atStart => exact ⟨0, Nat.zero_le _, rfl, Lib.hid ⟨World.grownBy.refl _ _, fun j x k hj => by omega⟩⟩
    case round =>
      obtain ⟨t, ht, rfl, HT⟩ := hrel
      by_cases hlt : t < i
      · obtain ⟨x, hx⟩ : ∃ x, ins[t]? = some x := ⟨_, List.getElem?_eq_getElem (by rw [HIL.out]; exact hlt)⟩
        obtain ⟨k, hk⟩ : ∃ k, c.kinds[t]? = some k := ⟨_, List.getElem?_eq_getElem (by rw [HX.out.2.2.2.2.1]; omega)⟩
        obtain ⟨b1, e1, rfl, p1⟩ := HH.out.2.2.2.1 t x hx
        obtain ⟨b2, e2, rfl, p2⟩ := HH.out.1.cd.kinds t k hk
        have htK : t < K := by omega
        have hgw : w.grownBy wr none := H1.out.1.trans HT.out.1
        have q1 := hgw.cell p1 (by simp)
        have q2 := (HH.out.1.hW.trans hgw).cell p2 (by simp)
        have hrr := (HT.out.1.block b7 (gl H1.out.2.1) (by simp)).trans H1.out.2.1
        have q0 := cell_of_row wr b7 0 _ _ _ hrr
        have HX1 := Lib.hid (And.intro hx hk)
        obtain ⟨v, hv⟩ : ∃ v, Bv.isv k x = v := ⟨_, rfl⟩
        have his2 := fun V => his k x V
        rw [hv] at his2
        have HV := Lib.hid hv
        clear hx hk hv his p1 p2 hgw hrr
        cases v with
        | true =>
          go_wp2
          go_quiet (first | (go_at_call 30; refine Calls.quiet_of_same (his2 _)))
          go_wp2
          refine ⟨⟨t + 1, by omega, by go_num, Lib.hid ⟨?_, fun j x' k' hj h1 h2 => ?_⟩⟩, by simp [intOf]; omega⟩
          · exact ⟨HT.out.1.os, HT.out.1.tape, HT.out.1.output, HT.out.1.size, HT.out.1.block⟩
          · rcases Nat.lt_or_ge j t with h3 | h3
            · exact HT.out.2 j x' k' h3 h1 h2
            · obtain rfl : j = t := by omega
              rw [HX1.out.1] at h1
              rw [HX1.out.2] at h2
              cases h1
              cases h2
              exact HV.out
        | false =>
          go_wp2
          go_quiet (first | (go_at_call 30; refine Calls.quiet_of_same (his2 _)))
          go_wp2
          refine bodyPost_ret (results_tmp3 rfl _ _ _) rfl ?_
          have ht : Ex.tickR c cells ins = ([], 0, 1, cells) := by
            unfold Ex.tickR
            rw [refuse_bad (by rw [HIL.out]; exact HX.out.1.symm) HX1.out.1 HX1.out.2 HV.out, if_neg (by decide)]
          have hwd : w.grownBy (wr.drewN nq) none := ⟨(H1.out.1.trans HT.out.1).os, (H1.out.1.trans HT.out.1).tape, (H1.out.1.trans HT.out.1).output, (H1.out.1.trans HT.out.1).size, (H1.out.1.trans HT.out.1).block⟩
          refine ⟨Kp.of0 hwd _, ?_, ?_⟩
          · rw [ht]; exact ⟨_, HH.out.1.on hwd, .inl rfl⟩
          · rw [ht]; exact ⟨_, rfl, World.ownsRow_nil _ _ _ _⟩
      · obtain rfl : t = i := by omega
        have HF : Hid (Ex.refuse c ins = 0) := Lib.hid (refuse_ok (by rw [HIL.out]; exact HX.out.1.symm) (fun j x k h1 h2 => HT.out.2 j x k (by rw [← HIL.out]; exact (List.getElem?_eq_some_iff.1 h1).1) h1 h2))
        have HW := Lib.hid (H1.out.1.trans HT.out.1)
        have HB := Lib.hid ((HT.out.1.block b7 (gl H1.out.2.1) (by simp)).trans H1.out.2.1)
        clear HT
        obtain ⟨k, hk⟩ : ∃ k, t + o = k := ⟨_, rfl⟩
        obtain ⟨q, hq⟩ : ∃ q, k + e = q := ⟨_, rfl⟩
        have hmk := fun V => mk_ints K (by omega) V
        have HK := Lib.hid (And.intro hk (And.intro hq HIL.out))
        have hKo : (t : Int) + (o : Int) = (k : Int) := by omega
        have HKO := Lib.hid hKo
        clear hk hq hKo his
        have hrb := HB.out
        have c0 := cell_of_row wr b7 0 _ _ _ hrb
        have c1 := cell_of_row wr b7 1 _ _ _ hrb
        have c2 := cell_of_row wr b7 2 _ _ _ hrb
        have c3 := cell_of_row wr b7 3 _ _ _ hrb
        have c4 := cell_of_row wr b7 4 _ _ _ hrb
        have c5 := cell_of_row wr b7 5 _ _ _ hrb
        have c6 := cell_of_row wr b7 6 _ _ _ hrb
        go_upto_region 11 with fail
        refine wp_asx (fun W3 hW3 => ?_)
        obtain ⟨g, hg⟩ : ∃ g, g = wr.heap.size := ⟨_, rfl⟩
        have hgw : w.heap.size ≤ g := by rw [hg]; exact HW.out.size
        have hrg : W3.heap[g]? = some (.cells (ints (List.replicate K 0)).toArray 3 (0, 0)) := by rw [hW3, hg, heap_alloc_new, made_ints]
        have hg3 : wr.grownBy W3 none := by rw [hW3]; exact World.grownBy_alloc wr _ none
        have hmg : m ≠ g := by have := gl H1.out.2.2.1; omega
        have hbg : b7 ≠ g := by have := gl hrb; omega
        obtain ⟨W4, hcp, hg4, hk4⟩ := copy_nums hrg (off := 0) (dl := K) (dc := K) (d := some ⟨g, 0, none⟩) ins cap (HH.out.2.2.2.1.on (HW.out.trans hg3)) (fun _ => rfl) (by simp; have := HK.out.2.2; omega) (by have := HK.out.2.2; omega)
        rw [HIL.out] at hcp
        have hr4 := hk4.slot (((HW.out.trans hg3).block m (gl H1.out.2.2.1) (by simp)).trans H1.out.2.2.1) hmg
        have hb4 := hk4.slot ((hg3.block b7 (gl hrb) (by simp)).trans hrb) hbg
        rw [← hg]
        have HG3 := Lib.hid (And.intro (HW.out.trans hg3) (And.intro hk4 hg4))
        clear hW3 hg hrg hg3 hk4 hg4 hmk hrb c0 c1 c2 c3 c4 c5 c6
        have c0 := cell_of_row W4 b7 0 _ _ _ hb4
        have c1 := cell_of_row W4 b7 1 _ _ _ hb4
        have c2 := cell_of_row W4 b7 2 _ _ _ hb4
        have c3 := cell_of_row W4 b7 3 _ _ _ hb4
        have c4 := cell_of_row W4 b7 4 _ _ _ hb4
        have c5 := cell_of_row W4 b7 5 _ _ _ hb4
        have c6 := cell_of_row W4 b7 6 _ _ _ hb4
        go_wp2
        clear hcp
        rw [HKO.out]
        obtain ⟨XA, hXA⟩ : ∃ XA, XA = partA g K k := ⟨_, rfl⟩
        have hxa := fun V => part_from g K k (by have := HK.out; omega) V
        rw [← hXA] at hxa
        have HPA := Lib.hid hXA
        clear hXA c0 c1 c2 c3 c4 c5 c6
        refine wp_region_L (S := fun V => V.heap[m]? = some (.cells #[.slice ka K kc, .int .i64 (t : Int), .int .i64 (o : Int), .int .i64 (e : Int), .int .i64 x4, .slice ia ni ic, .slice ba nb bc, .slice na e nc] 45 (0, 0))) (Z := []) (by kernel_rfl) ?_
        refine wpL_as (fun V4 hV4 => ?_)
        have hS := drew_row hr4 hV4
        have hb5 := drew_row hb4 hV4
        have HV4 := Lib.hid hV4
        clear hV4 hr4 hb4
        (try simp only [Act.put, sA, sB, sC])
        refine t1 0 63 (.slice (some ⟨g, 0, none⟩) K K) hS ?_
        (try simp only [Act.put, sA, sB, sC])
        refine t1 1 64 (.int .i64 (k : Int)) hS ?_
        (try simp only [Act.put, sA, sB, sC])
        refine t2 2 65 (.slice XA (K - k) (K - k)) (fun w' hw' => ?_) hS ?_
        · have hq0 := hxa w'; clear hxa hw'; go_simp
        (try simp only [Act.put, sA, sB, sC])
        refine t1 3 66 (.pointer (some ⟨m, 0, none⟩)) hS ?_
        (try simp only [Act.put, sA, sB, sC])
        refine t1 4 67 (.pointer (some ⟨m, 0, none⟩)) hS ?_
        (try simp only [Act.put, sA, sB, sC])
        refine t1 5 68 (.pointer (some ⟨m, 7, none⟩)) hS ?_
        (try simp only [Act.put, sA, sB, sC])
        refine t2 6 69 (.slice na e nc) (fun w' hw' => ?_) hS ?_
        · have hc0 := cell_of_row w' m 7 _ _ _ hw'; clear hxa hw'; go_simp
        (try simp only [Act.put, sA, sB, sC])
        have hL4 : V4.heap[g]? = some (.cells (ints (ins ++ List.replicate (K - ins.length) 0)).toArray 3 (0, 0)) := by
          rw [drew_row HG3.out.2.2 HV4.out]
          simp
        obtain ⟨W5, hcp, hg5, hk5⟩ := copy_nums hL4 (off := k) (dl := K - k) (dc := K - k) (d := XA) cells nc (by
          refine HH.out.2.2.2.2.2.onKp HG3.out.1 ?_ hgw
          rw [HV4.out]
          exact HG3.out.2.1.drew) (fun hne => by
            rw [HPA.out]
            unfold partA
            rw [if_neg]
            have := HX.out.2.2.2.2.2.2.2
            have := HK.out
            have : cells.length ≠ 0 := fun h => hne (List.eq_nil_of_length_eq_zero h)
            omega) (by simp; have := HX.out.2.2.2.2.2.2.2; have := HK.out; omega) (by have := HX.out.2.2.2.2.2.2.2; have := HK.out; omega)
        rw [HX.out.2.2.2.2.2.2.2] at hcp
        have hS5 := hk5.slot hS hmg
        refine wpL_valZ (i := 7) (d := 70) (v := .int .i64 (e : Int)) (w' := W5) (by kernel_rfl) rfl rfl (by kernel_rfl) (by clear hxa; go_simp) (fun _ => hS5) ?_
        (try simp only [Act.put, sA, sB, sC])
        refine wpL_done (by kernel_rfl) ?_ _
        obtain ⟨N, hN⟩ : ∃ N, N = nb := ⟨_, rfl⟩
        obtain ⟨R, hR⟩ : ∃ R, R = Ex.tick c cells ins := ⟨_, rfl⟩
        have HR := Lib.hid hR
        have hnb1 : 1 ≤ nb := by have := Ex.ok_parts HH.out.2.1; have := HX.out; omega
        have HL0 : Hid (RLp w W5 g b7 #[.slice ka K kc, .int .i64 (t : Int), .int .i64 (o : Int), .int .i64 (e : Int), .int .i64 x4, .slice ia ni ic, .slice ba nb bc] c R 0 (Ex.start c cells ins) [] (.slice none 0 0) 0 ∧ W5.heap[m]? = some (.cells #[.slice ka K kc, .int .i64 (t : Int), .int .i64 (o : Int), .int .i64 (e : Int), .int .i64 x4, .slice ia ni ic, .slice ba nb bc, .slice na e nc] 45 (0, 0))) := Lib.hid (by
          obtain ⟨y1, y2, y3, y4, y5, y6, y7, y8⟩ := HX.out
          obtain ⟨z1, z2, z3⟩ := HK.out
          have hgw5 : w.grownBy W5 none := by
            have a1 : Kp [g] w V4 := by rw [HV4.out]; exact ((Kp.of0 HG3.out.1 [g]).trans HG3.out.2.1).drew
            exact Kp.grown (World.grownBy.refl w none) (a1.trans hk5) (fun k hk => by simp at hk; rw [hk]; exact hgw)
          have hst := (Ex.start_is (c := c) (cells := cells) (ins := ins) (by omega) (by omega) (by omega) (by omega) k (by omega)).2
          rw [y5] at hst
          refine ⟨⟨hgw5, hgw, Nat.le_of_eq H1.out.2.2.2.symm, hbg, by rw [hg5, hst], (hk5.slot hb5 hbg), World.ownsRow_nil _ _ _ _, ⟨by simp [Value.ownBlock], by simp [Value.ownBlock]⟩, Nat.le_refl _, Ex.start_len HH.out.2.1 (by omega) (by omega), by simp, Ex.start_i64 HH.out.1.ci HH.out.2.2.2.2.1, by simp, Ex.At.first HH.out.2.1, c.body.length, HR.out.symm, by omega⟩, hS5⟩)
        clear hcp hg5 hk5 hL4 hS5 hS hb5 HV4 HG3 hxa HPA hR hN
        go_wp2
        generalize Value.agg #[.slice ka K kc, .int .i64 (t : Int), .int .i64 (o : Int), .int .i64 (e : Int), .int .i64 x4, .slice ia ni ic, .slice ba nb bc] = X27
        obtain ⟨i0, hi0, hz0, hzs, hzb⟩ := info_parts info_i
        have HI := Lib.hid (And.intro hi0 (And.intro hz0 (And.intro hzs hzb)))
        clear hi0 hz0 hzs hzb
        obtain ⟨ROW, hROW⟩ : ∃ ROW : Array Value, ROW = #[.slice ka K kc, .int .i64 (t : Int), .int .i64 (o : Int), .int .i64 (e : Int), .int .i64 x4, .slice ia ni ic, .slice ba nb bc] := ⟨_, rfl⟩
        have HROW := Lib.hid hROW
        rw [← hROW] at HL0
        clear hROW
        go_loopw [12, 13, 14] (fun sv nv pv wr => ∃ (n pc : Nat) (sa : Option Addr) (l sc : Nat), sv = .slice sa l sc ∧ nv = .int .i64 (n : Int) ∧ pv = .int .i64 (pc : Int) ∧ Hid (Nx w g b7 ROW c R nb n pc l sa sc wr)) (fun _ nv _ _ => nb - (intOf nv).toNat)
        case atStart => exact ⟨0, 0, none, 0, 0, rfl, rfl, rfl, Lib.hid (Nx.of HL0.out.1 HH.out.2.1 HX.out.2.2.2.2.2.2.1 rfl rfl rfl)⟩
        case round =>
          obtain ⟨n, pc, sa, l, sc, rfl, rfl, rfl, HT⟩ := hrel
          obtain ⟨hnp, hpn, hl64, val, s, hsl, hR1⟩ := HT.out
          obtain ⟨x, hx, hf, hnx⟩ := hR1.at_.fine (val := val) HH.out.2.1 hR1.vl
          obtain ⟨b1, e1, rfl, p1, p2, p3⟩ := HH.out.1.cd.body pc x hx
          have hgw2 := HH.out.1.hW.trans hR1.gw
          obtain ⟨xo, xn, xk⟩ := x
          have q1 := hgw2.cell p1 (by simp)
          have q2 := hgw2.cell p2 (by simp)
          have q3 := hgw2.cell p3 (by simp)
          simp only at q1 q2 q3
          have c6 := cell_of_row wr b7 6 _ _ _ hR1.rb
          rw [HROW.out] at c6
          have HX2 := Lib.hid (And.intro hsl (And.intro hR1 (And.intro hx (And.intro hf hnx))))
          have hop := hf.op
          simp only at hop
          clear hsl hR1 hx hf hnx p1 p2 p3 hgw2 HT
          go_upto_region 20 with fail
          refine wp_asx (fun V0 hV0 => ?_)
          have hbox : V0.heap[wr.heap.size]? = some (.cells #[.int .i64 xo, .int .i64 xn, .int .i64 xk] 56 (0, 0)) := by rw [hV0]; exact heap_alloc_new wr _
          have hgr0 : wr.grownBy V0 none := by rw [hV0]; exact World.grownBy_alloc wr _ none
          have hbl := gl hbox
          obtain ⟨bx, hbx⟩ : ∃ b, b = wr.heap.size := ⟨_, rfl⟩
          rw [← hbx] at hbox hbl ⊢
          have d0 := cell_of_row V0 bx 0 _ _ _ hbox
          have d1 := cell_of_row V0 bx 1 _ _ _ hbox
          have d2 := cell_of_row V0 bx 2 _ _ _ hbox
          have HB2 := Lib.hid (And.intro hbox (And.intro hgr0 hbx))
          have HT0 : Hid (To g g wr (.slice sa l sc) V0 (.slice sa l sc) ∧ V0.heap[g]? = some (.cells (ints val).toArray 3 (0, 0)) ∧ V0.ownsRow w.heap.size 3 1 (.slice sa l sc) s.length (ints s)) := Lib.hid ⟨To.of hgr0, (hgr0.block g (gl HX2.out.2.1.rg) (by simp)).trans HX2.out.2.1.rg, HX2.out.2.1.own.kept hgr0 (by cases (Value.slice sa l sc).ownBlock <;> simp)⟩
          clear hV0 hbox hgr0 hbx q1 q2 q3 c6
          obtain ⟨hsl, hR1, hx, hf, hnx⟩ := HX2.out
          rcases (show xo = 1 ∨ xo = 2 ∨ xo = 3 ∨ xo = 4 ∨ xo = 5 ∨ xo = 6 ∨ xo = 7 ∨ xo = 8 ∨ xo = 9 by omega) with rfl | rfl | rfl | rfl | rfl | rfl | rfl | rfl | rfl
          · clear hsl hR1 hx hf hnx
            go_wp2_with (at_builtin; refine wpList_append_own_at _ rfl _ _ 22 rfl w.heap.size 3 i0 _ 1 8 Tryz.underlying22 HI.out.1 HI.out.2.1 HI.out.2.2.1 HI.out.2.2.2 rfl (by decide) (.slice sa l sc) s.length (ints s) rfl (HT0.out.2.2.alloc _) ⟨V0.heap.size, 0, none⟩ 1 1 [.int .i64 xn] rfl rfl (row_cellx (heap_alloc_new V0 _)) (by intro u hu; simp at hu; subst hu; rfl) (by have := HX2.out.1; unfold maxLen; omega) (by have := HX2.out.1; omega) (by have h1 := HX2.out.2.1.gw.size; have h2 := HB2.out.2.1.size; rw [World.size_alloc]; omega) ?_; intro v' w3 hown hgr _ hat; obtain ⟨a9, k9, rfl⟩ := own_form hown; have HW3 := Lib.hid (And.intro hown (And.intro hgr hat)); clear hown hgr hat)
            have HNX : Hid (Nx w g b7 ROW c R nb (n + 1) (pc + 1) (l + 1) a9 k9 w3) := Lib.hid (by
              obtain ⟨y1, y2, y3, y4, y5⟩ := HX2.out
              have := y2.next (W' := w3) HH.out.2.1 HH.out.2.2.1 y3 y4 y5 (by simp) (to_push HT0.out.1 HW3.out.2.1 HW3.out.2.2) (by simpa [Ex.deed] using rg_push HT0.out.2.1 y2.og.1 HW3.out.2.1) (by simpa [Ex.deed] using HW3.out.1)
              simp only [Ex.deed, if_true] at this
              exact Nx.of (by rw [← y1]; exact this) HH.out.2.1 HX.out.2.2.2.2.2.2.1 (by simp [y1]) (by simp [Ex.nxt]) rfl
              )
            clear HW3
            exact ⟨⟨n + 1, pc + 1, a9, l + 1, k9, by rw [← HX2.out.1], by go_num, by go_num, HNX⟩, by simp [intOf]; omega⟩
          · have hl := hf.slot (by simp)
            simp only at hl
            obtain ⟨i2, rfl⟩ : ∃ i2 : Nat, xn = i2 := ⟨xn.toNat, by omega⟩
            have hi2 : i2 < K := by have h1 := hR1.vl; have h2 := HX.out.2.2.2.2.1; omega
            obtain ⟨y, hy⟩ : ∃ y, val[i2]? = some y := ⟨_, List.getElem?_eq_getElem (by omega)⟩
            have p5 : V0.cell? ⟨g, i2, none⟩ = some (.int .i64 y) := by rw [cell_of_row V0 g i2 _ _ _ HT0.out.2.1]; simp [hy]
            have HY := Lib.hid hy
            clear hsl hR1 hx hf hnx hl hy
            go_wp2_with (at_builtin; refine wpList_append_own_at _ rfl _ _ 22 rfl w.heap.size 3 i0 _ 1 8 Tryz.underlying22 HI.out.1 HI.out.2.1 HI.out.2.2.1 HI.out.2.2.2 rfl (by decide) (.slice sa l sc) s.length (ints s) rfl (HT0.out.2.2.alloc _) ⟨V0.heap.size, 0, none⟩ 1 1 [.int .i64 y] rfl rfl (row_cellx (heap_alloc_new V0 _)) (by intro u hu; simp at hu; subst hu; rfl) (by have := HX2.out.1; unfold maxLen; omega) (by have := HX2.out.1; omega) (by have h1 := HX2.out.2.1.gw.size; have h2 := HB2.out.2.1.size; rw [World.size_alloc]; omega) ?_; intro v' w3 hown hgr _ hat; obtain ⟨a9, k9, rfl⟩ := own_form hown; have HW3 := Lib.hid (And.intro hown (And.intro hgr hat)); clear hown hgr hat)
            have HNX : Hid (Nx w g b7 ROW c R nb (n + 1) (pc + 1) (l + 1) a9 k9 w3) := Lib.hid (by
              obtain ⟨y1, y2, y3, y4, y5⟩ := HX2.out
              have hd : val.getD ((i2 : Nat) : Int).toNat 0 = y := by rw [Int.toNat_natCast, List.getD_eq_getElem?_getD, HY.out]; rfl
              have := y2.next (W' := w3) HH.out.2.1 HH.out.2.2.1 y3 y4 y5 (by simp) (to_push HT0.out.1 HW3.out.2.1 HW3.out.2.2) (by simpa [Ex.deed] using rg_push HT0.out.2.1 y2.og.1 HW3.out.2.1) (by simp only [Ex.deed]; rw [if_neg (by decide), if_pos trivial, hd]; simpa using HW3.out.1)
              simp only [Ex.deed] at this
              rw [if_neg (by decide), if_pos trivial, hd] at this
              exact Nx.of (by rw [← y1]; exact this) HH.out.2.1 HX.out.2.2.2.2.2.2.1 (by simp [y1]) (by simp [Ex.nxt]) rfl
              )
            clear HW3
            exact ⟨⟨n + 1, pc + 1, a9, l + 1, k9, by rw [← HX2.out.1], by go_num, by go_num, HNX⟩, by simp [intOf]; omega⟩
          · have hl := hf.slot (by simp)
            simp only at hl
            obtain ⟨i2, rfl⟩ : ∃ i2 : Nat, xn = i2 := ⟨xn.toNat, by omega⟩
            have hi2 : i2 < K := by have h1 := hR1.vl; have h2 := HX.out.2.2.2.2.1; omega
            obtain ⟨z, hz⟩ : ∃ z, val[i2]? = some z := ⟨_, List.getElem?_eq_getElem (by omega)⟩
            have hh := hf.has1 (by simp)
            obtain ⟨r, y, rfl⟩ := snoc_of hh
            obtain ⟨l2, rfl⟩ : ∃ l2, l = l2 + 1 := ⟨l - 1, by omega⟩
            have hrl : r.length = l2 := by simpa using hsl
            obtain ⟨sb, rfl, py, fy, hscap⟩ := own_top HT0.out.2.2
            rw [hrl] at py fy
            rw [hsl] at hscap
            have HRL := Lib.hid hrl
            have p5 : V0.cell? ⟨g, i2, none⟩ = some (.int .i64 z) := by rw [cell_of_row V0 g i2 _ _ _ HT0.out.2.1]; simp [hz]
            have f5 := frozen_of_row V0 g i2 _ _ HT0.out.2.1
            clear hsl hR1 hx hf hnx hl hz hh hrl
            go_wp2
            refine wp_region_L (S := fun V => V = V0.drew) (Z := [8]) (by kernel_rfl) ?_
            refine wpL_as (fun V1 hV1 => ?_)
            have e0 := drewc d0 hV1
            have e1 := drewc d1 hV1
            have e2 := drewc d2 hV1
            have p5' := drewc p5 hV1
            have py' := drewc py hV1
            have f5' : V1.frozen? ⟨g, i2, none⟩ = false := by rw [hV1]; exact f5
            rw [← hV1]
            have HV1 := Lib.hid hV1
            clear hV1 d0 d1 d2 p5 f5 py fy
            have hS : V1 = V1 := rfl
            (try simp only [Act.put, sA, sB, sC])
            refine t1 0 122 (.slice (some ⟨g, 0, none⟩) K K) hS ?_
            (try simp only [Act.put, sA, sB, sC])
            refine t1 1 123 (.pointer (some ⟨bx, 1, none⟩)) hS ?_
            (try simp only [Act.put, sA, sB, sC])
            refine t2 2 124 (.int .i64 (i2 : Int)) (fun w' hw' => ?_) hS ?_
            · subst hw'; go_simp
            (try simp only [Act.put, sA, sB, sC])
            refine t1 3 125 (.slice (some ⟨sb, 0, none⟩) (l2 + 1) sc) hS ?_
            (try simp only [Act.put, sA, sB, sC])
            refine t1 4 126 (.int .i64 (l2 : Int)) hS ?_
            (try simp only [Act.put, sA, sB, sC])
            refine t2 5 127 (.pointer (some ⟨sb, l2, none⟩)) (fun w' hw' => ?_) hS ?_
            · subst hw'; go_simp; (intro h10; omega)
            (try simp only [Act.put, sA, sB, sC])
            refine t2 6 128 (.int .i64 y) (fun w' hw' => ?_) hS ?_
            · subst hw'; go_simp
            (try simp only [Act.put, sA, sB, sC])
            refine t2 7 129 (.pointer (some ⟨g, i2, none⟩)) (fun w' hw' => ?_) hS ?_
            · subst hw'; go_simp
            (try simp only [Act.put, sA, sB, sC])
            refine wpL_skip (i := 8) (w' := V1.setCell ⟨g, i2, none⟩ (.int .i64 y)) (by kernel_rfl) rfl rfl (by kernel_rfl) (by go_simp) (fun hz => absurd (by simp) hz) ?_
            refine wpL_done (by kernel_rfl) ?_ _
            obtain ⟨w3, hw3⟩ : ∃ w3, w3 = V1.setCell ⟨g, i2, none⟩ (.int .i64 y) := ⟨_, rfl⟩
            rw [← hw3]
            have HW3 := Lib.hid hw3
            clear hw3 e0 e1 e2 p5' py' f5'
            go_wp2
            have HNX : Hid (Nx w g b7 ROW c R nb (n + 1) (pc + 1) l2 (some ⟨sb, 0, none⟩) sc w3) := Lib.hid (by
              obtain ⟨y1, y2, y3, y4, y5⟩ := HX2.out
              have hg1 : V1.heap[g]? = some (.cells (ints val).toArray 3 (0, 0)) := drew_row HT0.out.2.1 HV1.out
              have hsg : sb ≠ g := fun e => y2.og.1 (by rw [e]; rfl)
              have how := owns_take (b := sb) (c := sc) (s := r) (a := y) (by have := HT0.out.2.2; rw [y1] at this; rw [y1]; exact this)
              have := y2.next (W' := w3) HH.out.2.1 HH.out.2.2.1 y3 y4 y5 (by simp) (HT0.out.1.trans (sv2 := .slice (some ⟨sb, 0, none⟩) r.length sc) ⟨by rw [HW3.out, HV1.out]; exact ((Kp.refl _ V0).drew).set (by simp) _, .inl rfl⟩) (by simp only [Ex.deed]; rw [HW3.out, if_neg (by decide), if_neg (by decide), if_pos trivial, Ex.top_snoc]; have := setrow (.int .i64 y) (j := i2) hg1; simpa [List.map_set] using this) (by simp only [Ex.deed]; rw [if_neg (by decide), if_neg (by decide), if_pos trivial, List.dropLast_concat]; exact owns_on how (fun j e => by rw [HW3.out, HV1.out]; exact heap_setCell_other _ ⟨g, i2, none⟩ j _ (fun e2 => hsg (by simp [Value.ownBlock] at e; rw [e, e2]))))
              simp only [Ex.deed] at this
              rw [if_neg (by decide), if_neg (by decide), if_pos trivial, List.dropLast_concat] at this
              exact Nx.of (by rw [← HRL.out]; exact this) HH.out.2.1 HX.out.2.2.2.2.2.2.1 HRL.out (by simp [Ex.nxt]) rfl
              )
            exact ⟨⟨n + 1, pc + 1, some ⟨sb, 0, none⟩, l2, sc, rfl, by go_num, by go_num, HNX⟩, by simp [intOf]; omega⟩
          · have hh := hf.has1 (by simp)
            obtain ⟨r, y, rfl⟩ := snoc_of hh
            obtain ⟨l2, rfl⟩ : ∃ l2, l = l2 + 1 := ⟨l - 1, by omega⟩
            have hrl : r.length = l2 := by simpa using hsl
            obtain ⟨sb, rfl, py, fy, hscap⟩ := own_top HT0.out.2.2
            rw [hrl] at py fy
            rw [hsl] at hscap
            have HRL := Lib.hid hrl
            have hyi := hR1.si y (by simp)
            clear hsl hR1 hx hf hnx hh hrl
            go_wp2
            refine wp_region_L (S := fun V => V0.grownBy V none) (Z := []) (by kernel_rfl) ?_
            refine wpL_as (fun V1 hV1 => ?_)
            have e0 := drewc d0 hV1
            have e1 := drewc d1 hV1
            have e2 := drewc d2 hV1
            have py' := drewc py hV1
            have hS : V0.grownBy V1 none := by rw [hV1]; exact ⟨rfl, rfl, rfl, Nat.le_refl _, fun _ _ _ => rfl⟩
            replace e1 := d1
            replace e2 := d2
            replace py' := py
            clear hV1 e0 d0
            (try simp only [Act.put, sA, sB, sC])
            refine t1 0 136 (.pointer (some ⟨bx, 1, none⟩)) hS ?_
            (try simp only [Act.put, sA, sB, sC])
            refine t2 1 137 (.int .i64 xn) (fun w' hw' => ?_) hS ?_
            · have hc0 := hw'.cell e1 (by simp); clear hw'; go_simp
            (try simp only [Act.put, sA, sB, sC])
            refine t1 2 138 (.pointer (some ⟨bx, 2, none⟩)) hS ?_
            (try simp only [Act.put, sA, sB, sC])
            refine t2 3 139 (.int .i64 xk) (fun w' hw' => ?_) hS ?_
            · have hc0 := hw'.cell e2 (by simp); clear hw'; go_simp
            (try simp only [Act.put, sA, sB, sC])
            refine t1 4 140 (.slice (some ⟨sb, 0, none⟩) (l2 + 1) sc) hS ?_
            (try simp only [Act.put, sA, sB, sC])
            refine t1 5 141 (.int .i64 (l2 : Int)) hS ?_
            (try simp only [Act.put, sA, sB, sC])
            refine t2 6 142 (.pointer (some ⟨sb, l2, none⟩)) (fun w' hw' => ?_) hS ?_
            · clear hw'; go_simp; (intro h10; omega)
            (try simp only [Act.put, sA, sB, sC])
            refine t2 7 143 (.int .i64 y) (fun w' hw' => ?_) hS ?_
            · have hc0 := hw'.cell py' (by simp); clear hw'; go_simp
            (try simp only [Act.put, sA, sB, sC])
            refine wpL_call (i := 8) (d := 144) (R := fun v V => v = .tuple #[.int .i64 (Bv.unN xn xk y), .bool (Bv.unB xn xk y)] ∧ V0.grownBy V none) (by kernel_rfl) rfl rfl (by kernel_rfl) (by kernel_rfl) ((run_any xn xk y hyi V1).mono fun e w' he => ⟨_, he.1, rfl, hS.trans (below_grown he.2)⟩) (fun v V h => h.2) (fun v V2 h => ?_)
            obtain ⟨rfl, hS2⟩ := h
            clear hS
            have hS := hS2
            clear hS2
            (try simp only [Act.put, sA, sB, sC])
            refine t1 9 135 (.tuple #[.int .i64 (Bv.unN xn xk y), .bool (Bv.unB xn xk y)]) hS ?_
            (try simp only [Act.put, sA, sB, sC])
            refine t1 10 145 (.int .i64 (Bv.unN xn xk y)) hS ?_
            (try simp only [Act.put, sA, sB, sC])
            refine t1 11 146 (.bool (Bv.unB xn xk y)) hS ?_
            (try simp only [Act.put, sA, sB, sC])
            refine t1 12 17 (.int .i64 (Bv.unN xn xk y)) hS ?_
            (try simp only [Act.put, sA, sB, sC])
            refine t1 13 18 (.bool (Bv.unB xn xk y)) hS ?_
            (try simp only [Act.put, sA, sB, sC])
            refine wpL_done (by kernel_rfl) ?_ _
            have c2y := hS.cell py (by simp)
            have f2y : V2.frozen? ⟨sb, l2, none⟩ = false := (World.frozen?_of_block (hS.block sb (lt_of_some py) (by simp))).trans fy
            have HS := Lib.hid hS
            obtain ⟨z, hz⟩ : ∃ z, z = Bv.unN xn xk y := ⟨_, rfl⟩
            rw [← hz]
            have HZ := Lib.hid hz
            clear hz d1 d2 e1 e2 py py' fy hS hyi
            generalize Bv.unB xn xk y = bb
            go_wp2
            have HNX : Hid (Nx w g b7 ROW c R nb (n + 1) (pc + 1) (l2 + 1) (some ⟨sb, 0, none⟩) sc (V2.setCell ⟨sb, l2, none⟩ (.int .i64 z))) := Lib.hid (by
              obtain ⟨y1, y2, y3, y4, y5⟩ := HX2.out
              have how := (HT0.out.2.2.kept HS.out (by cases (Value.slice (some ⟨sb, 0, none⟩) (l2 + 1) sc).ownBlock <;> simp))
              have hs2 := owns_set (b := sb) (c := sc) (r := r) (y := y) z (by have := how; rw [y1] at this; rw [y1]; exact this)
              rw [HRL.out] at hs2
              have hsg : sb ≠ g := fun e => y2.og.1 (by rw [e]; rfl)
              have := y2.next (W' := (V2.setCell ⟨sb, l2, none⟩ (.int .i64 z))) HH.out.2.1 HH.out.2.2.1 y3 y4 y5 (by simp) (HT0.out.1.trans (sv2 := .slice (some ⟨sb, 0, none⟩) (r ++ [z]).length sc) ⟨(Kp.of0 HS.out _).set (by simp [Value.ownBlock]) _, .inl rfl⟩) (by simp only [Ex.deed]; rw [if_neg (by decide), if_neg (by decide), if_neg (by decide), if_pos trivial]; exact (heap_setCell_other _ ⟨sb, l2, none⟩ g _ (fun e => hsg e.symm)).trans ((HS.out.block g (gl HT0.out.2.1) (by simp)).trans HT0.out.2.1)) (by simp only [Ex.deed]; rw [if_neg (by decide), if_neg (by decide), if_neg (by decide), if_pos trivial]; rw [Ex.top_snoc, List.dropLast_concat, ← HZ.out]; exact hs2)
              simp only [Ex.deed] at this
              rw [if_neg (by decide), if_neg (by decide), if_neg (by decide), if_pos trivial] at this
              rw [Ex.top_snoc, List.dropLast_concat, ← HZ.out] at this
              have hlz : (r ++ [z]).length = l2 + 1 := by simp [HRL.out]
              rw [hlz] at this
              exact Nx.of this HH.out.2.1 HX.out.2.2.2.2.2.2.1 hlz (by simp [Ex.nxt]) rfl
              )
            exact ⟨⟨n + 1, pc + 1, some ⟨sb, 0, none⟩, l2 + 1, sc, rfl, by go_num, by go_num, HNX⟩, by simp [intOf]; omega⟩
          · have hh := hf.has2 rfl
            obtain ⟨r1, y2, rfl⟩ := snoc_of (show 1 ≤ s.length by omega)
            obtain ⟨r, y1, rfl⟩ := snoc_of (show 1 ≤ r1.length by simp at hh; omega)
            obtain ⟨l2, rfl⟩ : ∃ l2, l = l2 + 1 + 1 := ⟨l - 2, by simp at hsl; omega⟩
            have hrl : r.length = l2 := by simpa using hsl
            have hrl1 : (r ++ [y1]).length = l2 + 1 := by simp [hrl]
            obtain ⟨sb, rfl, py2, fy2, hscap⟩ := own_top HT0.out.2.2
            rw [hrl1] at py2 fy2
            rw [hsl] at hscap
            have py1 : V0.cell? ⟨sb, l2, none⟩ = some (.int .i64 y1) := by
              have := HT0.out.2.2.cells (g := sb) rfl l2 (.int .i64 y1) (by rw [← hrl]; simp)
              rw [addr_at, Nat.zero_add] at this
              exact this
            have HRL := Lib.hid hrl
            have hyi1 := hR1.si y1 (by simp)
            have hyi2 := hR1.si y2 (by simp)
            clear hsl hR1 hx hf hnx hh hrl hrl1
            have ewl : IntKind.i64.wrap (l2 : Int) = (l2 : Int) := by rw [IntKind.wrap_i64]; omega
            have hidx : (l2 : Int) + 1 < (l2 : Int) + 1 + 1 := by omega
            go_wp2
            refine wp_region_L (S := fun V => V0.grownBy V none) (Z := []) (by kernel_rfl) ?_
            refine wpL_as (fun V1 hV1 => ?_)
            have hS : V0.grownBy V1 none := by rw [hV1]; exact ⟨rfl, rfl, rfl, Nat.le_refl _, fun _ _ _ => rfl⟩
            have e1 := d1
            have e2 := d2
            clear hV1 d0
            (try simp only [Act.put, sA, sB, sC])
            refine t1 0 154 (.pointer (some ⟨bx, 1, none⟩)) hS ?_
            (try simp only [Act.put, sA, sB, sC])
            refine t2 1 155 (.int .i64 xn) (fun w' hw' => ?_) hS ?_
            · have hc0 := hw'.cell e1 (by simp); clear hw'; go_simp
            (try simp only [Act.put, sA, sB, sC])
            refine t1 2 156 (.pointer (some ⟨bx, 2, none⟩)) hS ?_
            (try simp only [Act.put, sA, sB, sC])
            refine t2 3 157 (.int .i64 xk) (fun w' hw' => ?_) hS ?_
            · have hc0 := hw'.cell e2 (by simp); clear hw'; go_simp
            (try simp only [Act.put, sA, sB, sC])
            refine t1 4 158 (.slice (some ⟨sb, 0, none⟩) (l2 + 1 + 1) sc) hS ?_
            (try simp only [Act.put, sA, sB, sC])
            refine t1 5 159 (.int .i64 ((l2 : Int) + 1)) hS ?_
            (try simp only [Act.put, sA, sB, sC])
            refine t2 6 160 (.int .i64 (l2 : Int)) (fun w' hw' => ?_) hS ?_
            · clear hw'; go_simp
            (try simp only [Act.put, sA, sB, sC])
            refine t2 7 161 (.pointer (some ⟨sb, l2, none⟩)) (fun w' hw' => ?_) hS ?_
            · clear hw'; go_simp; (intro h10; omega)
            (try simp only [Act.put, sA, sB, sC])
            refine t2 8 162 (.int .i64 y1) (fun w' hw' => ?_) hS ?_
            · have hc0 := hw'.cell py1 (by simp); clear hw'; go_simp
            (try simp only [Act.put, sA, sB, sC])
            refine t1 9 163 (.slice (some ⟨sb, 0, none⟩) (l2 + 1 + 1) sc) hS ?_
            (try simp only [Act.put, sA, sB, sC])
            refine t1 10 164 (.int .i64 ((l2 : Int) + 1)) hS ?_
            (try simp only [Act.put, sA, sB, sC])
            refine t2 11 165 (.pointer (some ⟨sb, l2 + 1, none⟩)) (fun w' hw' => ?_) hS ?_
            · clear hw'; have hh9 := hidx; go_simp; (intro h10; omega)
            (try simp only [Act.put, sA, sB, sC])
            refine t2 12 166 (.int .i64 y2) (fun w' hw' => ?_) hS ?_
            · have hc0 := hw'.cell py2 (by simp); clear hw'; go_simp
            (try simp only [Act.put, sA, sB, sC])
            refine wpL_call (i := 13) (d := 167) (R := fun v V => v = .tuple #[.int .i64 (Bv.binN xn xk y1 y2), .int .i64 (Bv.binK xn xk y1 y2), .bool (Bv.binB xn xk y1 y2)] ∧ V0.grownBy V none) (by kernel_rfl) rfl rfl (by kernel_rfl) (by kernel_rfl) ((rbin_any xn xk y1 y2 hyi1 hyi2 V1).mono fun e w' he => ⟨_, he.1, rfl, hS.trans (below_grown he.2)⟩) (fun v V h => h.2) (fun v V2 h => ?_)
            obtain ⟨rfl, hS2⟩ := h
            clear hS
            have hS := hS2
            clear hS2
            (try simp only [Act.put, sA, sB, sC])
            refine t1 14 153 (.tuple #[.int .i64 (Bv.binN xn xk y1 y2), .int .i64 (Bv.binK xn xk y1 y2), .bool (Bv.binB xn xk y1 y2)]) hS ?_
            (try simp only [Act.put, sA, sB, sC])
            refine t1 15 168 (.int .i64 (Bv.binN xn xk y1 y2)) hS ?_
            (try simp only [Act.put, sA, sB, sC])
            refine t1 16 169 (.int .i64 (Bv.binK xn xk y1 y2)) hS ?_
            (try simp only [Act.put, sA, sB, sC])
            refine t1 17 170 (.bool (Bv.binB xn xk y1 y2)) hS ?_
            (try simp only [Act.put, sA, sB, sC])
            refine t1 18 19 (.int .i64 (Bv.binN xn xk y1 y2)) hS ?_
            (try simp only [Act.put, sA, sB, sC])
            refine t1 19 20 (.int .i64 (Bv.binK xn xk y1 y2)) hS ?_
            (try simp only [Act.put, sA, sB, sC])
            refine t1 20 21 (.bool (Bv.binB xn xk y1 y2)) hS ?_
            (try simp only [Act.put, sA, sB, sC])
            refine wpL_done (by kernel_rfl) ?_ _
            have HS := Lib.hid hS
            have HO2 : Hid (V2.ownsRow w.heap.size 3 1 (.slice (some ⟨sb, 0, none⟩) l2 sc) l2 (ints r)) := Lib.hid (by
              have := owns_take (owns_take (b := sb) (c := sc) (s := r ++ [y1]) (a := y2) (by have := HT0.out.2.2; have h1 := HX2.out.1; rw [h1] at this; rw [h1]; exact this))
              rw [HRL.out] at this
              exact this.kept HS.out (by cases (Value.slice (some ⟨sb, 0, none⟩) l2 sc).ownBlock <;> simp))
            obtain ⟨z, hz⟩ : ∃ z, z = Bv.binN xn xk y1 y2 := ⟨_, rfl⟩
            rw [← hz]
            have HZ := Lib.hid hz
            clear hz d1 d2 e1 e2 py1 py2 fy2 hS hyi1 hyi2 ewl hidx
            generalize Bv.binB xn xk y1 y2 = bb
            generalize Bv.binK xn xk y1 y2 = bk
            go_wp2_with (at_builtin; refine wpList_append_own_at _ rfl _ _ 22 rfl w.heap.size 3 i0 _ 1 8 Tryz.underlying22 HI.out.1 HI.out.2.1 HI.out.2.2.1 HI.out.2.2.2 rfl (by decide) (.slice (some ⟨sb, 0, none⟩) l2 sc) l2 (ints r) rfl (HO2.out.alloc _) ⟨V2.heap.size, 0, none⟩ 1 1 [.int .i64 z] rfl rfl (row_cellx (heap_alloc_new V2 _)) (by intro u hu; simp at hu; subst hu; rfl) (by unfold maxLen; omega) (by omega) (by have h1 := HX2.out.2.1.gw.size; have h2 := HB2.out.2.1.size; have h3 := HS.out.size; rw [World.size_alloc]; omega) ?_; intro v' w3 hown hgr _ hat; obtain ⟨a9, k9, rfl⟩ := own_form hown; have HW3 := Lib.hid (And.intro hown (And.intro hgr hat)); clear hown hgr hat)
            have HNX : Hid (Nx w g b7 ROW c R nb (n + 1) (pc + 1) (l2 + 1) a9 k9 w3) := Lib.hid (by
              obtain ⟨y1', y2', y3, y4, y5⟩ := HX2.out
              have hto : To g g wr (.slice (some ⟨sb, 0, none⟩) (l2 + 1 + 1) sc) V2 (.slice (some ⟨sb, 0, none⟩) l2 sc) := HT0.out.1.trans ⟨Kp.of0 HS.out _, .inl rfl⟩
              have hg2 : V2.heap[g]? = some (.cells (ints val).toArray 3 (0, 0)) := (HS.out.block g (gl HT0.out.2.1) (by simp)).trans HT0.out.2.1
              have := y2'.next (W' := w3) HH.out.2.1 HH.out.2.2.1 y3 y4 y5 (by simp) (to_push hto HW3.out.2.1 HW3.out.2.2) (by simp only [Ex.deed]; rw [if_neg (by decide), if_neg (by decide), if_neg (by decide), if_neg (by decide), if_pos trivial]; exact rg_push hg2 y2'.og.1 HW3.out.2.1) (by simp only [Ex.deed]; rw [if_neg (by decide), if_neg (by decide), if_neg (by decide), if_neg (by decide), if_pos trivial]; rw [List.dropLast_concat, List.dropLast_concat, Ex.top_snoc, Ex.top_snoc, ← HZ.out]; simpa [HRL.out] using HW3.out.1)
              simp only [Ex.deed] at this
              rw [if_neg (by decide), if_neg (by decide), if_neg (by decide), if_neg (by decide), if_pos trivial] at this
              rw [List.dropLast_concat, List.dropLast_concat, Ex.top_snoc, Ex.top_snoc, ← HZ.out] at this
              have hlz : (r ++ [z]).length = l2 + 1 := by simp [HRL.out]
              exact Nx.of this HH.out.2.1 HX.out.2.2.2.2.2.2.1 hlz (by simp [Ex.nxt]) rfl
              )
            clear HW3
            exact ⟨⟨n + 1, pc + 1, a9, l2 + 1, k9, rfl, by go_num, by go_num, HNX⟩, by simp [intOf]; omega⟩
          · have hh := hf.has1 (by simp)
            obtain ⟨r, y, rfl⟩ := snoc_of hh
            obtain ⟨l2, rfl⟩ : ∃ l2, l = l2 + 1 := ⟨l - 1, by omega⟩
            have hrl : r.length = l2 := by simpa using hsl
            obtain ⟨sb, rfl, py, fy, hscap⟩ := own_top HT0.out.2.2
            rw [hrl] at py fy
            rw [hsl] at hscap
            have HRL := Lib.hid hrl
            have hyi := hR1.si y (by simp)
            clear hsl hR1 hx hf hnx hh hrl
            go_wp2
            refine wp_region_L (S := fun V => V0.grownBy V none) (Z := []) (by kernel_rfl) ?_
            refine wpL_as (fun V1 hV1 => ?_)
            have e0 := drewc d0 hV1
            have e1 := drewc d1 hV1
            have e2 := drewc d2 hV1
            have py' := drewc py hV1
            have hS : V0.grownBy V1 none := by rw [hV1]; exact ⟨rfl, rfl, rfl, Nat.le_refl _, fun _ _ _ => rfl⟩
            replace e1 := d1
            replace e2 := d2
            replace py' := py
            clear hV1 e0 d0
            (try simp only [Act.put, sA, sB, sC])
            refine t1 0 181 (.pointer (some ⟨bx, 1, none⟩)) hS ?_
            (try simp only [Act.put, sA, sB, sC])
            refine t2 1 182 (.int .i64 xn) (fun w' hw' => ?_) hS ?_
            · have hc0 := hw'.cell e1 (by simp); clear hw'; go_simp
            (try simp only [Act.put, sA, sB, sC])
            refine t1 2 183 (.pointer (some ⟨bx, 2, none⟩)) hS ?_
            (try simp only [Act.put, sA, sB, sC])
            refine t2 3 184 (.int .i64 xk) (fun w' hw' => ?_) hS ?_
            · have hc0 := hw'.cell e2 (by simp); clear hw'; go_simp
            (try simp only [Act.put, sA, sB, sC])
            refine t1 4 185 (.slice (some ⟨sb, 0, none⟩) (l2 + 1) sc) hS ?_
            (try simp only [Act.put, sA, sB, sC])
            refine t1 5 186 (.int .i64 (l2 : Int)) hS ?_
            (try simp only [Act.put, sA, sB, sC])
            refine t2 6 187 (.pointer (some ⟨sb, l2, none⟩)) (fun w' hw' => ?_) hS ?_
            · clear hw'; go_simp; (intro h10; omega)
            (try simp only [Act.put, sA, sB, sC])
            refine t2 7 188 (.int .i64 y) (fun w' hw' => ?_) hS ?_
            · have hc0 := hw'.cell py' (by simp); clear hw'; go_simp
            (try simp only [Act.put, sA, sB, sC])
            refine wpL_call (i := 8) (d := 189) (R := fun v V => v = .tuple #[.int .i64 (Bv.casN xn xk y), .bool (Bv.casB xn xk y)] ∧ V0.grownBy V none) (by kernel_rfl) rfl rfl (by kernel_rfl) (by kernel_rfl) ((rcast_any xn xk y V1).mono fun e w' he => ⟨_, he.1, rfl, by rw [he.2]; exact hS⟩) (fun v V h => h.2) (fun v V2 h => ?_)
            obtain ⟨rfl, hS2⟩ := h
            clear hS
            have hS := hS2
            clear hS2
            (try simp only [Act.put, sA, sB, sC])
            refine t1 9 180 (.tuple #[.int .i64 (Bv.casN xn xk y), .bool (Bv.casB xn xk y)]) hS ?_
            (try simp only [Act.put, sA, sB, sC])
            refine t1 10 190 (.int .i64 (Bv.casN xn xk y)) hS ?_
            (try simp only [Act.put, sA, sB, sC])
            refine t1 11 191 (.bool (Bv.casB xn xk y)) hS ?_
            (try simp only [Act.put, sA, sB, sC])
            refine t1 12 22 (.int .i64 (Bv.casN xn xk y)) hS ?_
            (try simp only [Act.put, sA, sB, sC])
            refine t1 13 23 (.bool (Bv.casB xn xk y)) hS ?_
            (try simp only [Act.put, sA, sB, sC])
            refine wpL_done (by kernel_rfl) ?_ _
            have c2y := hS.cell py (by simp)
            have f2y : V2.frozen? ⟨sb, l2, none⟩ = false := (World.frozen?_of_block (hS.block sb (lt_of_some py) (by simp))).trans fy
            have HS := Lib.hid hS
            obtain ⟨z, hz⟩ : ∃ z, z = Bv.casN xn xk y := ⟨_, rfl⟩
            rw [← hz]
            have HZ := Lib.hid hz
            clear hz d1 d2 e1 e2 py py' fy hS hyi
            generalize Bv.casB xn xk y = bb
            go_wp2
            have HNX : Hid (Nx w g b7 ROW c R nb (n + 1) (pc + 1) (l2 + 1) (some ⟨sb, 0, none⟩) sc (V2.setCell ⟨sb, l2, none⟩ (.int .i64 z))) := Lib.hid (by
              obtain ⟨y1, y2, y3, y4, y5⟩ := HX2.out
              have how := (HT0.out.2.2.kept HS.out (by cases (Value.slice (some ⟨sb, 0, none⟩) (l2 + 1) sc).ownBlock <;> simp))
              have hs2 := owns_set (b := sb) (c := sc) (r := r) (y := y) z (by have := how; rw [y1] at this; rw [y1]; exact this)
              rw [HRL.out] at hs2
              have hsg : sb ≠ g := fun e => y2.og.1 (by rw [e]; rfl)
              have := y2.next (W' := (V2.setCell ⟨sb, l2, none⟩ (.int .i64 z))) HH.out.2.1 HH.out.2.2.1 y3 y4 y5 (by simp) (HT0.out.1.trans (sv2 := .slice (some ⟨sb, 0, none⟩) (r ++ [z]).length sc) ⟨(Kp.of0 HS.out _).set (by simp [Value.ownBlock]) _, .inl rfl⟩) (by simp only [Ex.deed]; rw [if_neg (by decide), if_neg (by decide), if_neg (by decide), if_neg (by decide), if_neg (by decide), if_pos trivial]; exact (heap_setCell_other _ ⟨sb, l2, none⟩ g _ (fun e => hsg e.symm)).trans ((HS.out.block g (gl HT0.out.2.1) (by simp)).trans HT0.out.2.1)) (by simp only [Ex.deed]; rw [if_neg (by decide), if_neg (by decide), if_neg (by decide), if_neg (by decide), if_neg (by decide), if_pos trivial]; rw [Ex.top_snoc, List.dropLast_concat, ← HZ.out]; exact hs2)
              simp only [Ex.deed] at this
              rw [if_neg (by decide), if_neg (by decide), if_neg (by decide), if_neg (by decide), if_neg (by decide), if_pos trivial] at this
              rw [Ex.top_snoc, List.dropLast_concat, ← HZ.out] at this
              have hlz : (r ++ [z]).length = l2 + 1 := by simp [HRL.out]
              rw [hlz] at this
              exact Nx.of this HH.out.2.1 HX.out.2.2.2.2.2.2.1 hlz (by simp [Ex.nxt]) rfl
              )
            exact ⟨⟨n + 1, pc + 1, some ⟨sb, 0, none⟩, l2 + 1, sc, rfl, by go_num, by go_num, HNX⟩, by simp [intOf]; omega⟩
          · have hah := hf.ahead (by simp)
            simp only at hah
            obtain ⟨n2, rfl⟩ : ∃ n2 : Nat, xn = n2 := ⟨xn.toNat, by omega⟩
            have hah2 : pc + 1 + n2 < nb := by have h1 := hah.2; have h2 := HX.out.2.2.2.2.2.2.1; rw [Int.toNat_natCast] at h1; omega
            clear hsl hR1 hx hf hnx hah
            go_wp2
            have HNX : Hid (Nx w g b7 ROW c R nb (n + 1) (pc + 1 + n2) l sa sc V0) := Lib.hid (by
              obtain ⟨y1, y2, y3, y4, y5⟩ := HX2.out
              have := y2.next (W' := V0) HH.out.2.1 HH.out.2.2.1 y3 y4 y5 (by simp) HT0.out.1 (by simpa [Ex.deed] using HT0.out.2.1) (by simpa [Ex.deed] using HT0.out.2.2)
              have hd : Ex.deed ⟨7, (n2 : Int), xk⟩ val s = (val, s) := by simp [Ex.deed]
              rw [hd] at this
              exact Nx.of this HH.out.2.1 HX.out.2.2.2.2.2.2.1 y1 (by simp [Ex.nxt]) rfl
              )
            exact ⟨⟨n + 1, pc + 1 + n2, sa, l, sc, rfl, by go_num, by go_num, HNX⟩, by simp [intOf]; omega⟩
          · have hah := hf.ahead (by simp)
            simp only at hah
            obtain ⟨n2, rfl⟩ : ∃ n2 : Nat, xn = n2 := ⟨xn.toNat, by omega⟩
            have hah2 : pc + 1 + n2 < nb := by have h1 := hah.2; have h2 := HX.out.2.2.2.2.2.2.1; rw [Int.toNat_natCast] at h1; omega
            have hh := hf.has1 (by simp)
            obtain ⟨r, y, rfl⟩ := snoc_of hh
            obtain ⟨l2, rfl⟩ : ∃ l2, l = l2 + 1 := ⟨l - 1, by omega⟩
            have hrl : r.length = l2 := by simpa using hsl
            obtain ⟨sb, rfl, py, fy, hscap⟩ := own_top HT0.out.2.2
            rw [hrl] at py fy
            rw [hsl] at hscap
            have HRL := Lib.hid hrl
            clear hsl hR1 hx hf hnx hah hh hrl
            by_cases hyz : y = 0
            · have hy0 : (y == 0) = true := by simp [hyz]
              have HYZ := Lib.hid hyz
              clear hyz
              go_wp2
              have HNX : Hid (Nx w g b7 ROW c R nb (n + 1) (pc + 1 + n2) l2 (some ⟨sb, 0, none⟩) sc V0) := Lib.hid (by
                obtain ⟨y1, y2, y3, y4, y5⟩ := HX2.out
                have how := owns_take (b := sb) (c := sc) (s := r) (a := y) (by have := HT0.out.2.2; rw [y1] at this; rw [y1]; exact this)
                have := y2.next (W' := V0) HH.out.2.1 HH.out.2.2.1 y3 y4 y5 (by simp) (HT0.out.1.trans (sv2 := .slice (some ⟨sb, 0, none⟩) r.length sc) ⟨Kp.refl _ _, .inl rfl⟩) (by simpa [Ex.deed] using HT0.out.2.1) (by simpa [Ex.deed] using how)
                have hd : Ex.deed ⟨8, (n2 : Int), xk⟩ val (r ++ [y]) = (val, r) := by simp [Ex.deed]
                rw [hd] at this
                exact Nx.of (by rw [← HRL.out]; exact this) HH.out.2.1 HX.out.2.2.2.2.2.2.1 HRL.out (by simp [Ex.nxt, Ex.top_snoc, HYZ.out]) rfl
                )
              exact ⟨⟨n + 1, pc + 1 + n2, some ⟨sb, 0, none⟩, l2, sc, rfl, by go_num, by go_num, HNX⟩, by simp [intOf]; omega⟩
            · have hy0 : (y == 0) = false := by simp [hyz]
              have HYZ := Lib.hid hyz
              clear hyz
              go_wp2
              have HNX : Hid (Nx w g b7 ROW c R nb (n + 1) (pc + 1) l2 (some ⟨sb, 0, none⟩) sc V0) := Lib.hid (by
                obtain ⟨y1, y2, y3, y4, y5⟩ := HX2.out
                have how := owns_take (b := sb) (c := sc) (s := r) (a := y) (by have := HT0.out.2.2; rw [y1] at this; rw [y1]; exact this)
                have := y2.next (W' := V0) HH.out.2.1 HH.out.2.2.1 y3 y4 y5 (by simp) (HT0.out.1.trans (sv2 := .slice (some ⟨sb, 0, none⟩) r.length sc) ⟨Kp.refl _ _, .inl rfl⟩) (by simpa [Ex.deed] using HT0.out.2.1) (by simpa [Ex.deed] using how)
                have hd : Ex.deed ⟨8, (n2 : Int), xk⟩ val (r ++ [y]) = (val, r) := by simp [Ex.deed]
                rw [hd] at this
                exact Nx.of (by rw [← HRL.out]; exact this) HH.out.2.1 HX.out.2.2.2.2.2.2.1 HRL.out (by simp [Ex.nxt, Ex.top_snoc, HYZ.out]) rfl
                )
              exact ⟨⟨n + 1, pc + 1, some ⟨sb, 0, none⟩, l2, sc, rfl, by go_num, by go_num, HNX⟩, by simp [intOf]; omega⟩
          · have hRv := hR1.ends hx rfl
            have hvl : val.length = K := by rw [hR1.vl]; exact HX.out.2.2.2.2.1
            have hro := cell_of_row wr b7 3 _ _ _ hR1.rb
            have hb7V := (HB2.out.2.1.block b7 (gl hR1.rb) (by simp)).trans hR1.rb
            rw [HROW.out] at hb7V
            have hwV : w.grownBy V0 none := hR1.gw.trans HB2.out.2.1
            have hmV := (hwV.block m (gl H1.out.2.2.1) (by simp)).trans H1.out.2.2.1
            have c1 := cell_of_row V0 b7 1 _ _ _ hb7V
            have c3 := cell_of_row V0 b7 3 _ _ _ hb7V
            have hcs : Ex.cellsOf c val = (val.drop k).take e := by
              obtain ⟨y1, y2, y3, y4, y5, y6, y7, y8⟩ := HX.out
              obtain ⟨z1, z2, z3⟩ := HK.out
              unfold Ex.cellsOf
              rw [show c.ins.toNat + c.outs.toNat = k by omega, show c.cells.toNat = e by omega]
            have hos : Ex.outsOf c val = (val.drop t).take (k - t) := by
              obtain ⟨y1, y2, y3, y4, y5, y6, y7, y8⟩ := HX.out
              obtain ⟨z1, z2, z3⟩ := HK.out
              unfold Ex.outsOf
              rw [show c.ins.toNat = t by omega, show c.outs.toNat = k - t by omega]
            have hcl : (Ex.cellsOf c val).length = e := by have := HK.out; rw [hcs, List.length_take, List.length_drop, hvl]; omega
            have hol : (Ex.outsOf c val).length = k - t := by have := HK.out; rw [hos, List.length_take, List.length_drop, hvl]; omega
            obtain ⟨XA, hXA⟩ : ∃ XA, XA = partA g K k := ⟨_, rfl⟩
            obtain ⟨ZA, hZA⟩ : ∃ ZA, ZA = partA g K t := ⟨_, rfl⟩
            have hxa : ∀ V, (Instr.slice 22 (.slice (some ⟨g, 0, none⟩) K K) (some (.int .i64 (k : Int))) (some (.int .i64 ((k : Int) + (e : Int)))) none).run Tryz.prog V = .ok (.slice XA e (K - k)) V := fun V => by
              have := part_of g K k (k + e) (by omega) (by have := HK.out; omega) V
              rw [hXA]
              rw [show k + e - k = e by omega, Int.natCast_add] at this
              exact this
            have hza : ∀ V, (Instr.slice 22 (.slice (some ⟨g, 0, none⟩) K K) (some (.int .i64 (t : Int))) (some (.int .i64 (k : Int))) none).run Tryz.prog V = .ok (.slice ZA (k - t) (K - t)) V := fun V => by
              rw [hZA]
              exact part_of g K t k (by have := HK.out; omega) (by have := HK.out; omega) V
            have HE := Lib.hid (And.intro hRv (And.intro hcs (And.intro hos (And.intro hcl (And.intro hol (And.intro hXA (And.intro hZA (And.intro hwV (And.intro hmV (And.intro hb7V hvl))))))))))
            have hke : k + e ≤ K := by have := HK.out; omega
            have hgV := gl HT0.out.2.1
            clear hRv hvl hro hb7V hwV hmV hcs hos hcl hol hXA hZA hsl hR1 hx hf hnx
            go_upto_region 23 with (at_builtin; refine wpList_plain rfl fun K' hK' => wp_app_nums V0 _ rfl w.heap.size (HE.out.2.2.2.2.2.2.2.1.size) XA (K - k) (Ex.cellsOf c val) (by rw [HE.out.2.2.2.1]; rfl) (by rw [HE.out.2.1, HE.out.2.2.2.2.2.1]; have h9 := part_at HT0.out.2.1 k e; rw [HE.out.2.2.2.2.2.2.2.2.2.2] at h9; exact h9) (by rw [HE.out.2.2.2.1]; omega) (fun v' w3 hown hgr => hK' _ _ ?_); obtain ⟨a9, k9, rfl⟩ := own_form hown; have hm3 := (hgr.block m (gl HE.out.2.2.2.2.2.2.2.2.1) (by simp)).trans HE.out.2.2.2.2.2.2.2.2.1; have c7 := cell_of_row w3 m 7 _ _ _ hm3; have f7 := frozen_of_row w3 m 7 _ _ hm3; have HA1 := Lib.hid (And.intro hown (And.intro hgr hm3)); clear hown hgr hm3)
            refine wp_asx (fun W6 hW6 => ?_)
            have hm6 : W6.heap[m]? = some (.cells #[.slice ka K kc, .int .i64 (t : Int), .int .i64 (o : Int), .int .i64 (e : Int), .int .i64 x4, .slice ia ni ic, .slice (some ⟨b1, e1, none⟩) nb bc, .slice a9 (Ex.cellsOf c val).length k9] 45 (0, 0)) := by rw [hW6]; exact setrow2 _ HA1.out.2.2 rfl
            have h6 : ∀ j, j ≠ m → W6.heap[j]? = w3.heap[j]? := fun j hj => by rw [hW6]; exact heap_setCell_other w3 ⟨m, 7, none⟩ j _ (fun e2 => hj e2)
            have hk6 : Kp [m] V0 W6 := by rw [hW6]; exact (Kp.of0 HA1.out.2.1 _).set (by simp) _
            have hg6 : W6.heap[g]? = some (.cells (ints val).toArray 3 (0, 0)) := (h6 g (fun e2 => hmg e2.symm)).trans ((HA1.out.2.1.block g hgV (by simp)).trans HT0.out.2.1)
            have hb6 := (h6 b7 (fun e2 => hmb7 e2.symm)).trans ((HA1.out.2.1.block b7 (gl HE.out.2.2.2.2.2.2.2.2.2.1) (by simp)).trans HE.out.2.2.2.2.2.2.2.2.2.1)
            have g1 := cell_of_row W6 b7 1 _ _ _ hb6
            have hs6 : w.heap.size ≤ W6.heap.size := Nat.le_trans HE.out.2.2.2.2.2.2.2.1.size hk6.size
            have HW6 := Lib.hid (And.intro hm6 (And.intro h6 (And.intro hk6 hg6)))
            clear hW6 hm6 h6 hk6 hg6 hb6 c7 f7 c1 c3 hxa d0 d1 d2
            go_wp2_with (at_builtin; refine wpList_plain rfl fun K' hK' => wp_app_nums W6 _ rfl w.heap.size (hs6) ZA (K - t) (Ex.outsOf c val) (by rw [HE.out.2.2.2.2.1]; rfl) (by rw [HE.out.2.2.1, HE.out.2.2.2.2.2.2.1]; have h9 := part_at HW6.out.2.2.2 t (k - t); rw [HE.out.2.2.2.2.2.2.2.2.2.2] at h9; exact h9) (by rw [HE.out.2.2.2.2.1]; omega) (fun v' w7 hown hgr => hK' _ _ ?_); obtain ⟨a8, k8, rfl⟩ := own_form hown; have HA2 := Lib.hid (And.intro hown hgr); clear hown hgr)
            refine bodyPost_ret (results_tmp3 rfl _ _ _) rfl ?_
            obtain ⟨x1, x2, x3, x4', x5, x6⟩ := HH.out
            obtain ⟨y1, y2, y3, y4, y5, y6, y7, y8⟩ := HX.out
            have ht : Ex.tickR c cells ins = (Ex.outsOf c val, n + 1, 0, Ex.cellsOf c val) := by
              unfold Ex.tickR
              rw [if_pos HF.out, ← HR.out, HE.out.1]
            have hk7 : Kp [m] w w7 := (Kp.of0 HE.out.2.2.2.2.2.2.2.1 [m]).trans (HW6.out.2.2.1.trans (Kp.of0 HA2.out.2 _))
            have hn1 : (Value.slice a9 (Ex.cellsOf c val).length k9).ownBlock ≠ some m := fun e2 => by have := (HA1.out.1.lt _ e2).1; have := gl H1.out.2.2.1; omega
            refine ⟨hk7, ?_, ?_⟩
            · rw [ht]
              refine ⟨.slice a9 (Ex.cellsOf c val).length k9, ⟨Kp.grown x1.hW hk7 (fun j hj => by simp at hj; rw [hj]; exact hmb), x1.cd, ?_, x1.mb, ?_, hn1, ?_, ?_⟩, .inr (fun j e2 => (HA1.out.1.lt j e2).1)⟩
              · rw [y1, y2, y3, y4, y5, y6, y7]
                exact (HA2.out.2.block m (gl HW6.out.1) (by simp)).trans HW6.out.1
              · refine xowns_base ((owns_on HA1.out.1 (fun j e2 => HW6.out.2.1 j (fun e3 => hn1 (by rw [e2, e3])))).kept HA2.out.2 (by cases (Value.slice a9 (Ex.cellsOf c val).length k9).ownBlock <;> simp)) ?_
                have := x1.mb; have := gl H1.out.2.2.1; omega
              · rw [HE.out.2.2.2.1, y3]
              · exact Ex.cells_i64 HX2.out.2.1.vi
            · rw [ht]
              exact ⟨_, rfl, HA2.out.1⟩
  · have HF : Hid (Ex.refuse c ins = 23) := Lib.hid (refuse_len (by rw [HX.out.1]; omega))
    have e1 : ((ins.length : Int) != (i : Int)) = true := by simp; omega
    have e2 : ins.length ≤ 9223372036854775807 := by simpa [maxLen] using hm
    have HG := Lib.hid (World.grownBy_alloc w (.cells #[.slice ka K kc, .int .i64 (i : Int), .int .i64 (o : Int), .int .i64 (e : Int), .int .i64 x4, .slice ia ni ic, .slice ba nb bc] 25) none)
    obtain ⟨N, hN⟩ : ∃ N, ins.length = N := ⟨_, rfl⟩
    rw [hN] at e1 e2 ⊢
    clear hN hil hm hb7
    go_enter Tryz.func15, Tryz.ntmps15
    go_wp2
    refine bodyPost_ret (results_tmp3 rfl _ _ _) rfl ?_
    have ht : Ex.tickR c cells ins = ([], 0, 23, cells) := by
      unfold Ex.tickR
      rw [HF.out, if_neg (by decide)]
    refine ⟨Kp.of0 HG.out _, ?_, ?_⟩
    · rw [ht]; exact ⟨_, HH.out.1.on HG.out, .inl rfl⟩
    · rw [ht]; exact ⟨_, rfl, World.ownsRow_nil _ _ _ _⟩
end Go.Proofs.YthcejnfnamhpfaaGreat
