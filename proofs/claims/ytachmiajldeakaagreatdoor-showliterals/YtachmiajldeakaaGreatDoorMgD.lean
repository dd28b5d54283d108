/- My texts GsA GsB, joined. -/
import Derived.Test.YtachmiajldeakaaGreatDoorMgC
import Derived.Deep.MidRow
set_option linter.unusedVariables false
/- gram's kid: one more expression to the parts of a form (made by mkkid.py). -/
namespace Go.Proofs.YtachmiajldeakaaGreatDoor
open Go.RowKit Go.Maps Go.WideMaps

section
variable {P : Program} {ops : Array Oper} {Q : Exit → Act → World → Prop} {md : Region.Mode} {S : World → Prop} {Z : List Nat}
/-- where all that is left is of Z nothing more is asked of the worlds -/
theorem wpL_relax : ∀ (f : Nat) (l : Array Bool) (a : Act) (w : World), (∀ j, l.getD j true = false → j ∈ Z) → wpL P md ops Q (fun _ => True) [] f l a w → wpL P md ops Q S Z f l a w
  | 0, _, _, _, _, h => h
  | f + 1, l, _, _, hz, h => ⟨h.1, fun j hj => wpOp_mono (fun a' w' hh => ⟨fun hn => absurd (hz j (mem_ready.1 hj).1) hn, wpL_relax f _ a' w' (fun k hk => hz k (by
      by_cases e : j = k
      · subst e
        exact (mem_ready.1 hj).1
      · rw [getD_set_ne true e] at hk; exact hk)) hh.2⟩) (h.2 j hj)⟩
theorem left_in {l : Array Bool} {Z : List Nat} (h : ((List.range l.size).all fun j => l.getD j true || Z.contains j) = true) : ∀ j, l.getD j true = false → j ∈ Z := by
  intro j hj
  have hs : j < l.size := by
    rcases Nat.lt_or_ge j l.size with h1 | h1
    · exact h1
    · simp [Array.getD, Nat.not_lt.2 h1] at hj
  have h2 := List.all_eq_true.1 h j (List.mem_range.2 hs)
  rw [hj] at h2
  simpa using h2
theorem wp_append_at {w : World} {o : Oper} {a : Act} {K : Act → World → Prop} (s x : Operand) (t : TypeId)
    (ho : o.op = .call { callee := .builtin .append, args := #[s, x], argTypes := #[t, t] })
    (base : Nat) (e : TypeId) (i : TypeInfo) (z : Value) (size bytes : Nat) (ht : P.underlying t = some (.slice e)) (hi : P.info? e = some i) (hz : i.zero = some z)
    (hsize : i.size = size) (hby : i.bytes = bytes) (hzs : z.cells.size = size) (hsz : 0 < size)
    (v : Value) (n : Nat) (xs : List Value) (hs : a.eval s = v) (hown : w.ownsRow base e size v n xs)
    (ad : Addr) (m c : Nat) (news : List Value) (hx : a.eval x = .slice (some ad) m c) (hl : news.length = m * size) (hnews : ∀ j u, news[j]? = some u → w.cell? (ad.add j) = some u) (h1 : ∀ u ∈ news, u.oneCell' = true)
    (h63 : n + m ≤ maxLen) (hbytes : (n + m) * bytes ≤ 140737488355328) (hbase : base ≤ w.heap.size)
    (h : ∀ v' w', w'.ownsRow base e size v' (n + m) (xs ++ news) → w.grownBy w' v.ownBlock → (v' = .slice none 0 0 ↔ v = .slice none 0 0 ∧ m = 0) → (v'.ownBlock = v.ownBlock ∨ v'.ownBlock = some w.heap.size) → K (a.put o.dst v') w') :
    Oper.wp P o a w K Q := by
  obtain ⟨v', w', hr, h2, h3, h4, h5⟩ := run_append_own_at (P := P) w base t o.type e i z size bytes ht hi hz hsize hby hzs hsz v n xs hown ad m c news hl hnews h1 h63 hbytes hbase
  unfold Oper.wp execOp
  simp only [ho, resolve, invoke, builtin, Sem.run_bind, Sem.run_pure, Result.andThen_ok, List.map_toArray, List.map_cons, List.map_nil, hs, hx, hr]
  exact h v' w' h2 h3 h4 h5
end

theorem setCell_comm (w : World) (a c : Addr) (u v : Value) (h : a.block ≠ c.block) : (w.setCell a u).setCell c v = (w.setCell c v).setCell a u := by
  unfold World.setCell
  simp only
  congr 1
  apply Array.ext_getElem?
  intro k
  simp only [Array.getElem?_modify]
  by_cases h1 : a.block = k
  · by_cases h2 : c.block = k
    · exact absurd (h1.trans h2.symm) h
    · simp [h1, h2]
  · by_cases h2 : c.block = k
    · simp [h1, h2]
    · simp [h1, h2]
theorem setCells_comm (g : Nat) (c : Addr) (v : Value) (h : c.block ≠ g) : ∀ (cs : List Value) (o : Nat) (w : World), (w.setCell c v).setCells g o cs = (w.setCells g o cs).setCell c v
  | [], _, _ => rfl
  | u :: r, o, w => by
    show ((w.setCell c v).setCell ⟨g, o, none⟩ u).setCells g (o + 1) r = _
    rw [setCell_comm w c ⟨g, o, none⟩ v u h]
    exact setCells_comm g c v h r (o + 1) (w.setCell ⟨g, o, none⟩ u)
theorem owns_setCells {e : TypeId} {size n cap B g : Nat} : ∀ (cs pre zs post : List Value) (w : World), zs.length = cs.length → w.ownsRow B e size (.slice (some ⟨g, 0, none⟩) n cap) n (pre ++ zs ++ post) →
    (w.setCells g pre.length cs).ownsRow B e size (.slice (some ⟨g, 0, none⟩) n cap) n (pre ++ cs ++ post) ∧ w.grownBy (w.setCells g pre.length cs) (some g)
  | [], pre, zs, post, w, hl, h => by
    have e0 : zs = [] := List.length_eq_zero_iff.1 hl
    subst e0
    exact ⟨h, World.grownBy.refl _ _⟩
  | u :: r, pre, zs, post, w, hl, h => by
    cases zs with
    | nil => cases hl
    | cons z zs =>
      obtain ⟨h1, h2⟩ := h.stored pre.length u
      have e1 : (pre ++ z :: zs ++ post).set pre.length u = (pre ++ [u]) ++ zs ++ post := by simp
      rw [e1] at h1
      obtain ⟨h3, h4⟩ := owns_setCells r (pre ++ [u]) zs post _ (by simpa using hl) h1
      have e2 : (pre ++ [u]).length = pre.length + 1 := by simp
      rw [e2] at h3 h4
      refine ⟨?_, h2.trans h4⟩
      have e3 : pre ++ [u] ++ r ++ post = pre ++ u :: r ++ post := by simp
      rw [e3] at h3
      exact h3
theorem owns_there {w : World} {B : Nat} {e : TypeId} {size g n cap : Nat} {xs : List Value} (h : w.ownsRow B e size (.slice (some ⟨g, 0, none⟩) n cap) n xs) (o m : Nat) (hm : o + m ≤ xs.length) : w.there g o m := by
  intro j hj
  refine ⟨?_, h.frozenAt _⟩
  rcases h.2 with ⟨h', _⟩ | ⟨g', cap', cur, h', hb, hg, hnc, hcm, hcs, htake⟩
  · simp at h'
  · simp only [Value.slice.injEq, Option.some.injEq, Addr.mk.injEq, and_true, true_and] at h'
    obtain ⟨rfl, rfl⟩ := h'
    rw [cell_of_row w g _ _ _ _ hg]
    have h1 : xs.length ≤ cur.size := by rw [← htake]; simp; omega
    simp; omega

def zrow : List Value := [.int .i64 0, .int .i64 0, .string ⟨#[]⟩, .int .i64 0, .int .i64 0, .int .i64 0, .int .i64 0, .slice none 0 0, .int .i64 0]

section
variable (b g cap : Nat) (rv : Value) (T : List Lex.Tk) (d : Nat)

set_option maxHeartbeats 12800000 in
set_option maxRecDepth 20000 in
theorem cs_kid (f : Nat) (hE : CExp b g cap rv T f) : CStep b g cap rv T d 175 (Gram.sKid T f d) := by
  intro w0 w q i c B p PB x v hc50 h hf
  obtain ⟨it, hit, hz, hsz, hby⟩ := infoP infoE
  cases x with
  | mk f1 s1 nm1 tk1 tl1 n1 m1 ks1 a1 =>
  obtain ⟨va, vn, vc, rfl⟩ := h.gro.form
  have hfew := h.few
  have hbw := h.bl
  have hlo := h.lo
  have hql := h.ql
  have hqb := h.ne
  have hqB := h.qB
  have hpB := h.pB
  obtain ⟨z0, z1, z2, z3, z4, z5, z6, z7, z8, zf⟩ := Nc.of (show w.heap[q]? = some (.cells #[.int .i64 f1, .int .i64 s1, .string ⟨nm1.toArray⟩, .int .i64 tk1, .int .i64 tl1, .int .i64 n1, .int .i64 m1, .slice va vn vc, .int .i64 a1] 28 (0, 0)) from h.row)
  have hS0 : (w.drew).cell? ⟨q, 7, none⟩ = some (.slice va vn vc) := z7
  have hgd : w.grownBy w.drew none := gdrew (World.grownBy.refl _ _)
  have hFd := h.kept0 hgd
  have hSK : ∀ (wx wy : World), wx.cell? ⟨q, 7, none⟩ = some (.slice va vn vc) → wx.grownBy wy (some b) → wy.cell? ⟨q, 7, none⟩ = some (.slice va vn vc) := fun wx wy hc hg => hg.cell hc (by simp; omega)
  have hlen : ∀ (ty : TypeId) (wx : World), (Builtin.len_ #[26] ty #[.slice va vn vc]).run Tryz.prog wx = .ok (.int .i64 (ks1.length : Int)) wx := by
    obtain ⟨xs, ho, _⟩ := h.gro
    exact fun ty wx => len_ownE ho ty wx
  have hXe := fun wx (hx : w.drew.grownBy wx none) => hE d i wx (hFd.pa.kept hx)
  have HF := Lib.hid hFd
  have H0 := Lib.hid h
  clear hFd h z0 z1 z2 z3 z4 z5 z6 z8
  obtain ⟨R, hR⟩ : ∃ R, R = Gram.sKid T f d (.mk f1 s1 nm1 tk1 tl1 n1 m1 ks1 a1) i := ⟨_, rfl⟩
  rw [← hR] at hf ⊢
  have HR := Lib.hid (show R = (Gram.exp T f d i).bind fun e j => .ok (.mk f1 s1 nm1 tk1 tl1 n1 m1 (ks1 ++ [e]) a1) j from hR)
  clear hR
  cases hx : Gram.exp T f d i with
  | fuel => rw [HR.out, hx] at hf; cases hf
  | bad a er =>
    simp only [hx, ePost] at hXe
    go_enter Tryz.func175, Tryz.ntmps175
    (try go_wp2)
    refine wp_region_L (S := fun w' => w'.cell? ⟨q, 7, none⟩ = some (.slice va vn vc)) (Z := [8, 9, 10, 11, 12, 13]) (by kernel_rfl) ?_
    refine wpL_take (i := 0) (v := .pointer (some ⟨q, 0, none⟩)) rfl (by kernel_rfl) (by kernel_rfl) (by kernel_rfl) (fun _ _ _ h => h) (by kernel_rfl) (.inl ⟨rfl, fun w' hw' => ?_⟩) hS0 ?_
    · go_simp
    refine wpL_take (i := 1) (v := .pointer (some ⟨q, 0, none⟩)) rfl (by kernel_rfl) (by kernel_rfl) (by kernel_rfl) (fun _ _ _ h => h) (by kernel_rfl) (.inl ⟨rfl, fun w' hw' => ?_⟩) hS0 ?_
    · go_simp
    refine wpL_take (i := 2) (v := .pointer (some ⟨q, 7, none⟩)) rfl (by kernel_rfl) (by kernel_rfl) (by kernel_rfl) (fun _ _ _ h => h) (by kernel_rfl) (.inl ⟨rfl, fun w' hw' => ?_⟩) hS0 ?_
    · go_simp
    refine wpL_take (i := 3) (v := .slice va vn vc) rfl (by kernel_rfl) (by kernel_rfl) (by kernel_rfl) (fun _ _ _ h => h) (by kernel_rfl) (.inl ⟨rfl, fun w' hw' => ?_⟩) hS0 ?_
    · go_simp
    refine wpL_take (i := 4) (v := .pointer (some ⟨b, 0, none⟩)) rfl (by kernel_rfl) (by kernel_rfl) (by kernel_rfl) (fun _ _ _ h => h) (by kernel_rfl) (.inl ⟨rfl, fun w' hw' => ?_⟩) hS0 ?_
    · go_simp
    refine wpL_take (i := 6) (v := .int .i64 (ks1.length : Int)) rfl (by kernel_rfl) (by kernel_rfl) (by kernel_rfl) (fun _ _ _ h => h) (by kernel_rfl) (.inl ⟨rfl, fun w' hw' => ?_⟩) hS0 ?_
    · go_simp
    refine wpL_two (i := 5) (j := 7) (by kernel_rfl) ?_ ?_
    · refine wpOp_step rfl (fun K' hK => ?_)
      split
      case isFalse hno => exact absurd rfl hno
      unfold Oper.wp
      go_simp
      refine (hXe _ (World.grownBy.refl _ _) rfl).mono ?_
      rintro e w3 ⟨rfl, hg3⟩
      refine ⟨rfl, ?_⟩
      rw [HR.out, hx]
      exact ⟨rfl, HF.out.gr.trans hg3⟩
    · refine wpOp_step rfl (fun K' hK => ?_)
      split
      case isFalse hno => exact absurd rfl hno
      unfold Oper.wp
      go_simp
      refine hK _ _ ⟨fun _ => hSK _ _ hS0 (World.grownBy_alloc w.drew _ (some b)), ?_⟩
      clear hK K'
      refine wpL_one (i := 5) (by kernel_rfl) ?_
      refine wpOp_step rfl (fun K' hK => ?_)
      split
      case isFalse hno => exact absurd rfl hno
      unfold Oper.wp
      go_simp
      refine (hXe _ (World.grownBy_alloc w.drew _ none) rfl).mono ?_
      rintro e w3 ⟨rfl, hg3⟩
      refine ⟨rfl, ?_⟩
      rw [HR.out, hx]
      exact ⟨rfl, (HF.out.gr.trans (World.grownBy_alloc w.drew _ (some b))).trans hg3⟩
  | ok y k =>
    cases y with
    | mk f2 s2 nm2 tk2 tl2 n2 m2 ks2 a2 =>
    simp only [hx, ePost, expV] at hXe
    go_enter Tryz.func175, Tryz.ntmps175
    (try go_wp2)
    refine wp_region_L (S := fun w' => w'.cell? ⟨q, 7, none⟩ = some (.slice va vn vc)) (Z := [8, 9, 10, 11, 12, 13]) (by kernel_rfl) ?_
    refine wpL_take (i := 0) (v := .pointer (some ⟨q, 0, none⟩)) rfl (by kernel_rfl) (by kernel_rfl) (by kernel_rfl) (fun _ _ _ h => h) (by kernel_rfl) (.inl ⟨rfl, fun w' hw' => ?_⟩) hS0 ?_
    · go_simp
    refine wpL_take (i := 1) (v := .pointer (some ⟨q, 0, none⟩)) rfl (by kernel_rfl) (by kernel_rfl) (by kernel_rfl) (fun _ _ _ h => h) (by kernel_rfl) (.inl ⟨rfl, fun w' hw' => ?_⟩) hS0 ?_
    · go_simp
    refine wpL_take (i := 2) (v := .pointer (some ⟨q, 7, none⟩)) rfl (by kernel_rfl) (by kernel_rfl) (by kernel_rfl) (fun _ _ _ h => h) (by kernel_rfl) (.inl ⟨rfl, fun w' hw' => ?_⟩) hS0 ?_
    · go_simp
    refine wpL_take (i := 3) (v := .slice va vn vc) rfl (by kernel_rfl) (by kernel_rfl) (by kernel_rfl) (fun _ _ _ h => h) (by kernel_rfl) (.inl ⟨rfl, fun w' hw' => ?_⟩) hS0 ?_
    · go_simp
    refine wpL_take (i := 4) (v := .pointer (some ⟨b, 0, none⟩)) rfl (by kernel_rfl) (by kernel_rfl) (by kernel_rfl) (fun _ _ _ h => h) (by kernel_rfl) (.inl ⟨rfl, fun w' hw' => ?_⟩) hS0 ?_
    · go_simp
    refine wpL_take (i := 6) (v := .int .i64 (ks1.length : Int)) rfl (by kernel_rfl) (by kernel_rfl) (by kernel_rfl) (fun _ _ _ h => h) (by kernel_rfl) (.inl ⟨rfl, fun w' hw' => ?_⟩) hS0 ?_
    · go_simp
    refine wpL_two (i := 5) (j := 7) (by kernel_rfl) ?_ ?_
    · refine wpOp_step rfl (fun K' hK => ?_)
      split
      case isFalse hno => exact absurd rfl hno
      unfold Oper.wp
      go_simp
      refine (hXe _ (World.grownBy.refl _ _) rfl).mono ?_
      rintro e w3 ⟨k3, rfl, hk3, hP3, hg3⟩
      obtain ⟨kb, kn2, kc2, rfl⟩ := hk3.form
      refine hK _ _ ⟨fun _ => hSK _ _ hS0 hg3, ?_⟩
      clear hK K'
      refine wpL_one (i := 7) (by kernel_rfl) ?_
      refine wpOp_step rfl (fun K' hK => ?_)
      split
      case isFalse hno => exact absurd rfl hno
      unfold Oper.wp
      go_simp
      refine hK _ _ ⟨fun _ => hSK _ _ (hSK _ _ hS0 hg3) (World.grownBy_alloc w3 _ (some b)), ?_⟩
      clear hK K'
      have hs3 := hg3.size
      obtain ⟨w5, hw5⟩ : ∃ W, W = w3.alloc (.cells zrow.toArray 28) := ⟨_, rfl⟩
      have hga : w3.grownBy w5 none := by rw [hw5]; exact World.grownBy_alloc w3 _ _
      have hp5 : ∀ j u, zrow[j]? = some u → w5.cell? ((⟨w3.heap.size, 0, none⟩ : Addr).add j) = some u := by rw [hw5]; exact cell_row_new w3 zrow 28
      have hg5 : w.drew.grownBy w5 (some b) := hg3.trans (grown_some hga b)
      have hP5 := hP3.kept hga
      have hk5 : Kids w5 w.heap.size ks2 (.slice kb kn2 kc2) := hk3.kept0 hga
      rw [show w3.alloc (.cells #[.int .i64 0, .int .i64 0, .string ⟨#[]⟩, .int .i64 0, .int .i64 0, .int .i64 0, .int .i64 0, .slice none 0 0, .int .i64 0] 28) = w5 from hw5.symm]
      clear hw5
      have hs5 := hg5.size
      have hsd : w.drew.heap.size = w.heap.size := rfl
      have hF5 := HF.out.on hg5 hP5
      obtain ⟨xs5, ho5, hr5⟩ := hF5.gro
      have hvl := hF5.gro.lt
      have hvl0 := HF.out.gro.lt
      have hvq : ∀ k, (Value.slice va vn vc).ownBlock = some k → B ≤ k := fun k e => (ho5.lt k e).1
      have hkx : KidsX w5 B (Value.slice va vn vc).ownBlock.toList ks2 (.slice kb kn2 kc2) := RepC.mono H0.out.Bs (RepC.toX _ (fun k e => .inr (by have := hvl0 k e; omega)) hk5)
      refine wpL_one (i := 8) (by kernel_rfl) ?_
      refine wpOp_step rfl (fun K' hK => ?_)
      split
      case isFalse hno => exact absurd rfl hno
      refine wp_append_at _ _ 26 rfl B 28 it _ 9 96 Tryz.underlying26 hit hz hsz hby rfl (by decide) _ ks1.length xs5 rfl ho5 ⟨w3.heap.size, 0, none⟩ 1 1 zrow rfl rfl hp5 (by decide) ?_ ?_ ?_ ?_
      · simp only [Gram.Exp.kids] at hfew; unfold maxLen; omega
      · simp only [Gram.Exp.kids] at hfew; omega
      · exact hF5.Bs
      intro v' w6 ho6 hg6 hnil hvb
      have hn' : ¬ v' = .slice none 0 0 := fun e => by have h2 := (hnil.1 e).2; omega
      rcases ho6.2 with ⟨e, _⟩ | ⟨gg, cc, cur, e6, hge, _, hcc, _⟩
      · exact absurd e hn'
      subst e6
      have hgq : q < gg := by omega
      have hst := owns_setCells (expCells (.mk f2 s2 nm2 tk2 tl2 n2 m2 ks2 a2) (.slice kb kn2 kc2)) xs5 zrow [] w6 rfl (by simpa using ho6)
      rw [List.append_nil] at hst
      have hx5l : xs5.length = ks1.length * 9 := ho5.1
      obtain ⟨W7, hW7⟩ : ∃ W, W = w6.setCells gg xs5.length (expCells (.mk f2 s2 nm2 tk2 tl2 n2 m2 ks2 a2) (.slice kb kn2 kc2)) := ⟨_, rfl⟩
      rw [← hW7] at hst
      have hW7' : w6.setCells gg (ks1.length * 9) (Array.toList #[.int .i64 f2, .int .i64 s2, .string ⟨nm2.toArray⟩, .int .i64 tk2, .int .i64 tl2, .int .i64 n2, .int .i64 m2, .slice kb kn2 kc2, .int .i64 a2]) = W7 := by rw [hW7, hx5l]; rfl
      clear hW7
      have hgb : (some gg = (Value.slice va vn vc).ownBlock) ∨ gg = w5.heap.size := by
        rcases hvb with h1 | h1
        · exact .inl h1
        · exact .inr (by simpa [Value.ownBlock] using h1)
      have hg7 : w5.grownBy W7 (Value.slice va vn vc).ownBlock := hg6.andThen hst.2 (fun j e => by
        cases e
        rcases hgb with h1 | h1
        · exact .inr h1.symm
        · exact .inl (by omega))
      have hG7 : Growing W7 B (ks1 ++ [.mk f2 s2 nm2 tk2 tl2 n2 m2 ks2 a2]) (.slice (some ⟨gg, 0, none⟩) (ks1.length + 1) cc) := growing_snoc hg7 hst.1 hr5 hkx hvb
      have hq7 : W7.heap[q]? = some (.cells #[.int .i64 f1, .int .i64 s1, .string ⟨nm1.toArray⟩, .int .i64 tk1, .int .i64 tl1, .int .i64 n1, .int .i64 m1, .slice va vn vc, .int .i64 a1] 28 (0, 0)) := (hg7.block q hF5.ql (by intro e; have := hvq q e.symm; omega)).trans hF5.row
      have hq6 : w6.heap[q]? = some (.cells #[.int .i64 f1, .int .i64 s1, .string ⟨nm1.toArray⟩, .int .i64 tk1, .int .i64 tl1, .int .i64 n1, .int .i64 m1, .slice va vn vc, .int .i64 a1] 28 (0, 0)) := (hg6.block q hF5.ql (by intro e; have := hvq q e.symm; omega)).trans hF5.row
      have c7 : W7.cell? ⟨q, 7, none⟩ = some (.slice va vn vc) := (Nc.of hq7).c7
      have f7 := (Nc.of hq7).f 7
      have c6 : w6.cell? ⟨q, 7, none⟩ = some (.slice va vn vc) := (Nc.of hq6).c7
      have f6 := (Nc.of hq6).f 7
      have hth : w6.there gg (ks1.length * 9) 9 := owns_there ho6 _ _ (by simp [zrow]; omega)
      have hend : Hid (fPost w0 b g cap rv T q d (c + 1) B p PB R (.returned (.tuple #[])) (W7.setCell ⟨q, 7, none⟩ (.slice (some ⟨gg, 0, none⟩) (ks1.length + 1) cc))) := by
        show fPost _ _ _ _ _ _ _ _ _ _ _ _ _ _ _
        rw [HR.out, hx]
        obtain ⟨i0, h0⟩ := H0.out.p0
        have hGa : w0.grownBy W7 (some b) := hF5.gr.andThen hg7 (fun j e => .inl (by have := hvq j e; omega))
        have hG : w0.grownBy (W7.setCell ⟨q, 7, none⟩ (.slice (some ⟨gg, 0, none⟩) (ks1.length + 1) cc)) (some b) := gset hGa (.inl hlo) _
        refine ⟨rfl, _, ⟨H0.out.p0, h0.to hG ((hP5.st.kept hg7 (by intro e; have := hvq b e.symm; omega)).kept (grown_set W7 ⟨q, 7, none⟩ _) (by simp; omega)) hP5.lt, hG, hlo, heap_setCell_same W7 q 7 _ _ _ hq7, hqB, hpB, hF5.pq, hF5.pb, Nat.le_trans hF5.Bs (Nat.le_trans hg7.size (grown_set W7 ⟨q, 7, none⟩ _).size), ((grown_set W7 ⟨q, 7, none⟩ _).block p (Nat.lt_of_lt_of_le hF5.pl hg7.size) (by have := hF5.pq; simpa using this)).trans ((hg7.block p hF5.pl (by intro e; have := hvq p e.symm; omega)).trans hF5.prow), hG7.keptB (grown_set W7 ⟨q, 7, none⟩ _) hqB, ?_⟩⟩
        simp only [Gram.Exp.kids, List.length_append, List.length_cons, List.length_nil] at hfew ⊢
        omega
      have HEND := hend
      clear hend hst hg7 hG7 hgb hq7 hq6
      refine hK _ _ ⟨fun hno => absurd (by simp) hno, ?_⟩
      clear hK K'
      refine wpL_relax _ _ _ _ (left_in (by kernel_rfl)) ?_
      refine wpL_take (i := 9) (v := .pointer (some ⟨gg, ks1.length * 9, none⟩)) rfl (by kernel_rfl) (by kernel_rfl) (by kernel_rfl) (fun _ _ _ h => h) (by kernel_rfl) (.inl ⟨rfl, fun w' hw' => ?_⟩) trivial ?_
      · have hlt : (ks1.length : Int) < (ks1.length : Int) + 1 := by omega
        have hnn : ¬ (ks1.length : Int) < 0 := by omega
        go_simp
      refine wpL_take (i := 11) (v := .pointer (some ⟨q, 0, none⟩)) rfl (by kernel_rfl) (by kernel_rfl) (by kernel_rfl) (fun _ _ _ h => h) (by kernel_rfl) (.inl ⟨rfl, fun w' hw' => ?_⟩) trivial ?_
      · go_simp
      refine wpL_take (i := 12) (v := .pointer (some ⟨q, 7, none⟩)) rfl (by kernel_rfl) (by kernel_rfl) (by kernel_rfl) (fun _ _ _ h => h) (by kernel_rfl) (.inl ⟨rfl, fun w' hw' => ?_⟩) trivial ?_
      · go_simp
      refine wpL_two (i := 10) (j := 13) (by kernel_rfl) ?_ ?_
      · refine wpOp_step rfl (fun K' hK => ?_)
        split
        case isFalse hno => exact absurd rfl hno
        refine wp_store_mid _ _ _ rfl gg (ks1.length * 9) #[.int .i64 f2, .int .i64 s2, .string ⟨nm2.toArray⟩, .int .i64 tk2, .int .i64 tl2, .int .i64 n2, .int .i64 m2, .slice kb kn2 kc2, .int .i64 a2] (by go_simp) (by go_simp) hth (by kernel_rfl) (by simp [Value.oneCell']) ?_
        rw [hW7']
        refine hK _ _ ⟨fun _ => trivial, ?_⟩
        clear hK K'
        refine wpL_one (i := 13) (by kernel_rfl) ?_
        refine wpOp_step rfl (fun K' hK => ?_)
        split
        case isFalse hno => exact absurd rfl hno
        unfold Oper.wp
        go_simp
        refine hK _ _ ⟨fun _ => trivial, ?_⟩
        clear hK K'
        refine wpL_done (by kernel_rfl) ?_ _
        go_end0
        exact HEND.out
      · refine wpOp_step rfl (fun K' hK => ?_)
        split
        case isFalse hno => exact absurd rfl hno
        unfold Oper.wp
        go_simp
        refine hK _ _ ⟨fun _ => trivial, ?_⟩
        clear hK K'
        refine wpL_one (i := 10) (by kernel_rfl) ?_
        refine wpOp_step rfl (fun K' hK => ?_)
        split
        case isFalse hno => exact absurd rfl hno
        refine wp_store_mid _ _ _ rfl gg (ks1.length * 9) #[.int .i64 f2, .int .i64 s2, .string ⟨nm2.toArray⟩, .int .i64 tk2, .int .i64 tl2, .int .i64 n2, .int .i64 m2, .slice kb kn2 kc2, .int .i64 a2] (by go_simp) (by go_simp) (owns_there (ho6.kept (grown_set w6 ⟨q, 7, none⟩ _) (.inr (by simp [Value.ownBlock]; omega))) _ _ (by simp [zrow]; omega)) (by kernel_rfl) (by simp [Value.oneCell']) ?_
        rw [setCells_comm gg ⟨q, 7, none⟩ _ (by simp; omega), hW7']
        refine hK _ _ ⟨fun _ => trivial, ?_⟩
        clear hK K'
        refine wpL_done (by kernel_rfl) ?_ _
        go_end0
        exact HEND.out
    · refine wpOp_step rfl (fun K' hK => ?_)
      split
      case isFalse hno => exact absurd rfl hno
      unfold Oper.wp
      go_simp
      refine hK _ _ ⟨fun _ => hSK _ _ hS0 (World.grownBy_alloc w.drew _ (some b)), ?_⟩
      clear hK K'
      obtain ⟨w3, hw3⟩ : ∃ W, W = w.drew.alloc (.cells zrow.toArray 28) := ⟨_, rfl⟩
      have hga : w.drew.grownBy w3 none := by rw [hw3]; exact World.grownBy_alloc w.drew _ _
      have hp3 : ∀ j u, zrow[j]? = some u → w3.cell? ((⟨w.heap.size, 0, none⟩ : Addr).add j) = some u := by rw [hw3]; exact cell_row_new w.drew zrow 28
      have hs3 : w3.heap.size = w.heap.size + 1 := by rw [hw3]; simp
      refine wpL_one (i := 5) (by kernel_rfl) ?_
      refine wpOp_step rfl (fun K' hK => ?_)
      split
      case isFalse hno => exact absurd rfl hno
      unfold Oper.wp
      go_simp
      rw [show (w.alloc (.cells #[.int .i64 0, .int .i64 0, .string ⟨#[]⟩, .int .i64 0, .int .i64 0, .int .i64 0, .int .i64 0, .slice none 0 0, .int .i64 0] 28)).drew = w3 from hw3.symm]
      refine (hXe _ hga rfl).mono ?_
      rintro e w5 ⟨k3, rfl, hk3, hP5, hg35⟩
      obtain ⟨kb, kn2, kc2, rfl⟩ := hk3.form
      have hg5 : w.drew.grownBy w5 (some b) := (grown_some hga b).trans hg35
      refine hK _ _ ⟨fun _ => hSK _ _ hS0 hg5, ?_⟩
      clear hK K' hw3
      have hk5 : Kids w5 w.heap.size ks2 (.slice kb kn2 kc2) := hk3.mono (by omega)
      have hp5 : ∀ j u, zrow[j]? = some u → w5.cell? ((⟨w.heap.size, 0, none⟩ : Addr).add j) = some u := fun j u e => hg35.cell (hp3 j u e) (by rw [Addr.add_mid]; simp; omega)
      have hs5 := hg5.size
      have hsd : w.drew.heap.size = w.heap.size := rfl
      have hF5 := HF.out.on hg5 hP5
      obtain ⟨xs5, ho5, hr5⟩ := hF5.gro
      have hvl := hF5.gro.lt
      have hvl0 := HF.out.gro.lt
      have hvq : ∀ k, (Value.slice va vn vc).ownBlock = some k → B ≤ k := fun k e => (ho5.lt k e).1
      have hkx : KidsX w5 B (Value.slice va vn vc).ownBlock.toList ks2 (.slice kb kn2 kc2) := RepC.mono H0.out.Bs (RepC.toX _ (fun k e => .inr (by have := hvl0 k e; omega)) hk5)
      refine wpL_one (i := 8) (by kernel_rfl) ?_
      refine wpOp_step rfl (fun K' hK => ?_)
      split
      case isFalse hno => exact absurd rfl hno
      refine wp_append_at _ _ 26 rfl B 28 it _ 9 96 Tryz.underlying26 hit hz hsz hby rfl (by decide) _ ks1.length xs5 rfl ho5 ⟨w.heap.size, 0, none⟩ 1 1 zrow rfl rfl hp5 (by decide) ?_ ?_ ?_ ?_
      · simp only [Gram.Exp.kids] at hfew; unfold maxLen; omega
      · simp only [Gram.Exp.kids] at hfew; omega
      · exact hF5.Bs
      intro v' w6 ho6 hg6 hnil hvb
      have hn' : ¬ v' = .slice none 0 0 := fun e => by have h2 := (hnil.1 e).2; omega
      rcases ho6.2 with ⟨e, _⟩ | ⟨gg, cc, cur, e6, hge, _, hcc, _⟩
      · exact absurd e hn'
      subst e6
      have hgq : q < gg := by omega
      have hst := owns_setCells (expCells (.mk f2 s2 nm2 tk2 tl2 n2 m2 ks2 a2) (.slice kb kn2 kc2)) xs5 zrow [] w6 rfl (by simpa using ho6)
      rw [List.append_nil] at hst
      have hx5l : xs5.length = ks1.length * 9 := ho5.1
      obtain ⟨W7, hW7⟩ : ∃ W, W = w6.setCells gg xs5.length (expCells (.mk f2 s2 nm2 tk2 tl2 n2 m2 ks2 a2) (.slice kb kn2 kc2)) := ⟨_, rfl⟩
      rw [← hW7] at hst
      have hW7' : w6.setCells gg (ks1.length * 9) (Array.toList #[.int .i64 f2, .int .i64 s2, .string ⟨nm2.toArray⟩, .int .i64 tk2, .int .i64 tl2, .int .i64 n2, .int .i64 m2, .slice kb kn2 kc2, .int .i64 a2]) = W7 := by rw [hW7, hx5l]; rfl
      clear hW7
      have hgb : (some gg = (Value.slice va vn vc).ownBlock) ∨ gg = w5.heap.size := by
        rcases hvb with h1 | h1
        · exact .inl h1
        · exact .inr (by simpa [Value.ownBlock] using h1)
      have hg7 : w5.grownBy W7 (Value.slice va vn vc).ownBlock := hg6.andThen hst.2 (fun j e => by
        cases e
        rcases hgb with h1 | h1
        · exact .inr h1.symm
        · exact .inl (by omega))
      have hG7 : Growing W7 B (ks1 ++ [.mk f2 s2 nm2 tk2 tl2 n2 m2 ks2 a2]) (.slice (some ⟨gg, 0, none⟩) (ks1.length + 1) cc) := growing_snoc hg7 hst.1 hr5 hkx hvb
      have hq7 : W7.heap[q]? = some (.cells #[.int .i64 f1, .int .i64 s1, .string ⟨nm1.toArray⟩, .int .i64 tk1, .int .i64 tl1, .int .i64 n1, .int .i64 m1, .slice va vn vc, .int .i64 a1] 28 (0, 0)) := (hg7.block q hF5.ql (by intro e; have := hvq q e.symm; omega)).trans hF5.row
      have hq6 : w6.heap[q]? = some (.cells #[.int .i64 f1, .int .i64 s1, .string ⟨nm1.toArray⟩, .int .i64 tk1, .int .i64 tl1, .int .i64 n1, .int .i64 m1, .slice va vn vc, .int .i64 a1] 28 (0, 0)) := (hg6.block q hF5.ql (by intro e; have := hvq q e.symm; omega)).trans hF5.row
      have c7 : W7.cell? ⟨q, 7, none⟩ = some (.slice va vn vc) := (Nc.of hq7).c7
      have f7 := (Nc.of hq7).f 7
      have c6 : w6.cell? ⟨q, 7, none⟩ = some (.slice va vn vc) := (Nc.of hq6).c7
      have f6 := (Nc.of hq6).f 7
      have hth : w6.there gg (ks1.length * 9) 9 := owns_there ho6 _ _ (by simp [zrow]; omega)
      have hend : Hid (fPost w0 b g cap rv T q d (c + 1) B p PB R (.returned (.tuple #[])) (W7.setCell ⟨q, 7, none⟩ (.slice (some ⟨gg, 0, none⟩) (ks1.length + 1) cc))) := by
        show fPost _ _ _ _ _ _ _ _ _ _ _ _ _ _ _
        rw [HR.out, hx]
        obtain ⟨i0, h0⟩ := H0.out.p0
        have hGa : w0.grownBy W7 (some b) := hF5.gr.andThen hg7 (fun j e => .inl (by have := hvq j e; omega))
        have hG : w0.grownBy (W7.setCell ⟨q, 7, none⟩ (.slice (some ⟨gg, 0, none⟩) (ks1.length + 1) cc)) (some b) := gset hGa (.inl hlo) _
        refine ⟨rfl, _, ⟨H0.out.p0, h0.to hG ((hP5.st.kept hg7 (by intro e; have := hvq b e.symm; omega)).kept (grown_set W7 ⟨q, 7, none⟩ _) (by simp; omega)) hP5.lt, hG, hlo, heap_setCell_same W7 q 7 _ _ _ hq7, hqB, hpB, hF5.pq, hF5.pb, Nat.le_trans hF5.Bs (Nat.le_trans hg7.size (grown_set W7 ⟨q, 7, none⟩ _).size), ((grown_set W7 ⟨q, 7, none⟩ _).block p (Nat.lt_of_lt_of_le hF5.pl hg7.size) (by have := hF5.pq; simpa using this)).trans ((hg7.block p hF5.pl (by intro e; have := hvq p e.symm; omega)).trans hF5.prow), hG7.keptB (grown_set W7 ⟨q, 7, none⟩ _) hqB, ?_⟩⟩
        simp only [Gram.Exp.kids, List.length_append, List.length_cons, List.length_nil] at hfew ⊢
        omega
      have HEND := hend
      clear hend hst hg7 hG7 hgb hq7 hq6
      refine hK _ _ ⟨fun hno => absurd (by simp) hno, ?_⟩
      clear hK K'
      refine wpL_relax _ _ _ _ (left_in (by kernel_rfl)) ?_
      refine wpL_take (i := 9) (v := .pointer (some ⟨gg, ks1.length * 9, none⟩)) rfl (by kernel_rfl) (by kernel_rfl) (by kernel_rfl) (fun _ _ _ h => h) (by kernel_rfl) (.inl ⟨rfl, fun w' hw' => ?_⟩) trivial ?_
      · have hlt : (ks1.length : Int) < (ks1.length : Int) + 1 := by omega
        have hnn : ¬ (ks1.length : Int) < 0 := by omega
        go_simp
      refine wpL_take (i := 11) (v := .pointer (some ⟨q, 0, none⟩)) rfl (by kernel_rfl) (by kernel_rfl) (by kernel_rfl) (fun _ _ _ h => h) (by kernel_rfl) (.inl ⟨rfl, fun w' hw' => ?_⟩) trivial ?_
      · go_simp
      refine wpL_take (i := 12) (v := .pointer (some ⟨q, 7, none⟩)) rfl (by kernel_rfl) (by kernel_rfl) (by kernel_rfl) (fun _ _ _ h => h) (by kernel_rfl) (.inl ⟨rfl, fun w' hw' => ?_⟩) trivial ?_
      · go_simp
      refine wpL_two (i := 10) (j := 13) (by kernel_rfl) ?_ ?_
      · refine wpOp_step rfl (fun K' hK => ?_)
        split
        case isFalse hno => exact absurd rfl hno
        refine wp_store_mid _ _ _ rfl gg (ks1.length * 9) #[.int .i64 f2, .int .i64 s2, .string ⟨nm2.toArray⟩, .int .i64 tk2, .int .i64 tl2, .int .i64 n2, .int .i64 m2, .slice kb kn2 kc2, .int .i64 a2] (by go_simp) (by go_simp) hth (by kernel_rfl) (by simp [Value.oneCell']) ?_
        rw [hW7']
        refine hK _ _ ⟨fun _ => trivial, ?_⟩
        clear hK K'
        refine wpL_one (i := 13) (by kernel_rfl) ?_
        refine wpOp_step rfl (fun K' hK => ?_)
        split
        case isFalse hno => exact absurd rfl hno
        unfold Oper.wp
        go_simp
        refine hK _ _ ⟨fun _ => trivial, ?_⟩
        clear hK K'
        refine wpL_done (by kernel_rfl) ?_ _
        go_end0
        exact HEND.out
      · refine wpOp_step rfl (fun K' hK => ?_)
        split
        case isFalse hno => exact absurd rfl hno
        unfold Oper.wp
        go_simp
        refine hK _ _ ⟨fun _ => trivial, ?_⟩
        clear hK K'
        refine wpL_one (i := 10) (by kernel_rfl) ?_
        refine wpOp_step rfl (fun K' hK => ?_)
        split
        case isFalse hno => exact absurd rfl hno
        refine wp_store_mid _ _ _ rfl gg (ks1.length * 9) #[.int .i64 f2, .int .i64 s2, .string ⟨nm2.toArray⟩, .int .i64 tk2, .int .i64 tl2, .int .i64 n2, .int .i64 m2, .slice kb kn2 kc2, .int .i64 a2] (by go_simp) (by go_simp) (owns_there (ho6.kept (grown_set w6 ⟨q, 7, none⟩ _) (.inr (by simp [Value.ownBlock]; omega))) _ _ (by simp [zrow]; omega)) (by kernel_rfl) (by simp [Value.oneCell']) ?_
        rw [setCells_comm gg ⟨q, 7, none⟩ _ (by simp; omega), hW7']
        refine hK _ _ ⟨fun _ => trivial, ?_⟩
        clear hK K'
        refine wpL_done (by kernel_rfl) ?_ _
        go_end0
        exact HEND.out
end

end Go.Proofs.YtachmiajldeakaaGreatDoor

/- gram's choice and parts. -/
namespace Go.Proofs.YtachmiajldeakaaGreatDoor
open Go.RowKit Go.Maps Go.WideMaps

namespace Gram
def sChoice (T : List Lex.Tk) (f d : Nat) : Step := fun x i =>
  (sKid T f d x i).bind fun x j => (expect T j [116, 104, 101, 110]).bind fun _ j => (sKid T f d x j).bind fun x j => (expect T j [101, 108, 115, 101]).bind fun _ j => sKid T f d x j
theorem PR.bind_fuel {α β : Type} {r : PR α} {f : α → Nat → PR β} (h : (r.bind f).isFuel = false) : r.isFuel = false := by
  cases r with
  | fuel => cases h
  | bad => rfl
  | ok => rfl
theorem expect_yes {T : List Lex.Tk} {i : Nat} {s : B} (h : sees T i s = true) : expect T i s = .ok (tk T i) (i + 1) := by unfold expect need; rw [if_pos h]
theorem expect_no {T : List Lex.Tk} {i : Nat} {s : B} (h : sees T i s = false) : expect T i s = .bad ((tk T i).at_ : Int) 12 := by unfold expect need fail; rw [if_neg (by rw [h]; decide)]
end Gram

theorem Fs.more {w0 w : World} {b g cap : Nat} {rv : Value} {T : List Lex.Tk} {q i d c c' B p : Nat} {PB : Obj} {x : Gram.Exp} {v : Value} (h : Fs w0 w b g cap rv T q i d c B p PB x v) (hc : c ≤ c') : Fs w0 w b g cap rv T q i d c' B p PB x v :=
  ⟨h.p0, h.pa, h.gr, h.lo, h.row, h.qB, h.pB, h.pq, h.pb, h.Bs, h.prow, h.gro, Nat.le_trans h.few (Nat.mul_le_mul_left 20 hc)⟩

theorem len_parts (a : Option Addr) (len cap : Nat) (ty : TypeId) (wx : World) : (Builtin.len_ #[233] ty #[.slice a len cap]).run Tryz.prog wx = .ok (.int .i64 (len : Int)) wx := by
  simp [Builtin.len_, run_underlying Tryz.underlying233, goInt, Result.andThen]
def fnV (b n : Nat) : Value := .func (.func n) #[.pointer (some ⟨b, 0, none⟩)] #[]
def partB (b : Nat) (ns : List Nat) : Obj := .cells (ns.map (fnV b)).toArray 234 (0, 0)

section
variable (b g cap : Nat) (rv : Value) (T : List Lex.Tk) (d : Nat)

set_option maxHeartbeats 1600000 in
set_option maxRecDepth 20000 in
theorem gchoice_any (f : Nat) (hE : CExp b g cap rv T f) (w0 w : World) (q i c B p : Nat) (PB : Obj) (x : Gram.Exp) (v : Value) (hc : c < 40) (h : Fs w0 w b g cap rv T q i d c B p PB x v) (hf : (Gram.sChoice T f d x i).isFuel = false) :
    Calls Tryz.prog 173 #[.pointer (some ⟨b, 0, none⟩), .pointer (some ⟨q, 0, none⟩)] w fun e w' => fPost w0 b g cap rv T q d (c + 3) B p PB (Gram.sChoice T f d x i) e w' := by
  have hK := cs_kid b g cap rv T d f hE
  obtain ⟨R, hR⟩ : ∃ R, R = Gram.sChoice T f d x i := ⟨_, rfl⟩
  rw [← hR] at hf ⊢
  unfold Gram.sChoice at hR
  have HR := Lib.hid hR
  clear hR
  have hF1 := h
  clear h
  go_enter Tryz.func173, Tryz.ntmps173
  have k1 := hK w0 w q i c B p PB x v (by omega) hF1 (by rw [HR.out] at hf; exact Gram.PR.bind_fuel hf)
  clear hF1
  cases r1 : Gram.sKid T f d x i with
  | fuel => rw [HR.out, r1] at hf; cases hf
  | bad a er =>
    rw [r1] at k1
    simp only [fPost] at k1
    
    go_wp2_with (go_at_call 175; refine k1.mono ?_; rintro e w9 ⟨rfl, hg9⟩)
    refine ⟨rfl, ?_⟩
    rw [HR.out, r1]
    exact ⟨rfl, hg9⟩
  | ok y1 j1 =>
  rw [r1] at k1
  simp only [fPost] at k1
  go_wp2_with (go_at_call 175; refine k1.mono ?_; rintro e v1w ⟨rfl, v1, hE1⟩; refine Hid.out ?_)
  have HS1 : Hid (R = (Gram.expect T j1 [116, 104, 101, 110]).bind fun _ j => (Gram.sKid T f d y1 j).bind fun x j => (Gram.expect T j [101, 108, 115, 101]).bind fun _ j => Gram.sKid T f d x j) := by show _ = _; rw [HR.out, r1]; rfl
  clear HR r1
  rcases Bool.eq_false_or_eq_true (Gram.sees T j1 [116, 104, 101, 110]) with s1 | s1
  case inr =>
    have hX := gexpect_no b g cap rv T j1 d ⟨#[116, 104, 101, 110]⟩ v1w hE1.pa s1
    have hg1 := hE1.gr
    refine Lib.hid ?_
    go_wp2_with (go_at_call 77; refine hX.mono ?_; rintro e w9 ⟨rfl, hg9⟩)
    refine ⟨rfl, ?_⟩
    rw [HS1.out, Gram.expect_no s1]
    exact ⟨rfl, hg1.trans hg9⟩
  have hX1 := gexpect_yes b g cap rv T j1 d ⟨#[116, 104, 101, 110]⟩ v1w hE1.pa s1 (hE1.pa.nextSees s1 (by decide))
  have HF1 := Lib.hid hE1
  clear hE1
  refine Lib.hid ?_
  go_wp2_with (go_at_call 77; refine hX1.mono ?_; rintro e u1 ⟨rfl, hP1, hg1⟩; refine Hid.out ?_)
  have hF2 := HF1.out.on hg1 hP1
  have HT1 : Hid (R = (Gram.sKid T f d y1 (j1 + 1)).bind fun x j => (Gram.expect T j [101, 108, 115, 101]).bind fun _ j => Gram.sKid T f d x j) := by show _ = _; rw [HS1.out, Gram.expect_yes s1]; rfl
  clear HS1
  have k2 := hK w0 u1 q (j1 + 1) (c + 1) B p PB y1 v1 (by omega) hF2 (by rw [HT1.out] at hf; exact Gram.PR.bind_fuel hf)
  clear hF2
  cases r2 : Gram.sKid T f d y1 (j1 + 1) with
  | fuel => rw [HT1.out, r2] at hf; cases hf
  | bad a er =>
    rw [r2] at k2
    simp only [fPost] at k2
    refine Lib.hid ?_
    go_wp2_with (go_at_call 175; refine k2.mono ?_; rintro e w9 ⟨rfl, hg9⟩)
    refine ⟨rfl, ?_⟩
    rw [HT1.out, r2]
    exact ⟨rfl, hg9⟩
  | ok y2 j2 =>
  rw [r2] at k2
  simp only [fPost] at k2
  refine Lib.hid ?_
  go_wp2_with (go_at_call 175; refine k2.mono ?_; rintro e v2w ⟨rfl, v2, hE2⟩; refine Hid.out ?_)
  have HS2 : Hid (R = (Gram.expect T j2 [101, 108, 115, 101]).bind fun _ j => Gram.sKid T f d y2 j) := by show _ = _; rw [HT1.out, r2]; rfl
  clear HT1 r2
  rcases Bool.eq_false_or_eq_true (Gram.sees T j2 [101, 108, 115, 101]) with s2 | s2
  case inr =>
    have hX := gexpect_no b g cap rv T j2 d ⟨#[101, 108, 115, 101]⟩ v2w hE2.pa s2
    have hg1 := hE2.gr
    refine Lib.hid ?_
    go_wp2_with (go_at_call 77; refine hX.mono ?_; rintro e w9 ⟨rfl, hg9⟩)
    refine ⟨rfl, ?_⟩
    rw [HS2.out, Gram.expect_no s2]
    exact ⟨rfl, hg1.trans hg9⟩
  have hX2 := gexpect_yes b g cap rv T j2 d ⟨#[101, 108, 115, 101]⟩ v2w hE2.pa s2 (hE2.pa.nextSees s2 (by decide))
  have HF2 := Lib.hid hE2
  clear hE2
  refine Lib.hid ?_
  go_wp2_with (go_at_call 77; refine hX2.mono ?_; rintro e u2 ⟨rfl, hP2, hg2⟩; refine Hid.out ?_)
  have hF3 := HF2.out.on hg2 hP2
  have HT2 : Hid (R = Gram.sKid T f d y2 (j2 + 1)) := by show _ = _; rw [HS2.out, Gram.expect_yes s2]; rfl
  clear HS2
  have k3 := hK w0 u2 q (j2 + 1) (c + 1 + 1) B p PB y2 v2 (by omega) hF3 (by rw [HT2.out] at hf; exact hf)
  clear hF3
  cases r3 : Gram.sKid T f d y2 (j2 + 1) with
  | fuel => rw [HT2.out, r3] at hf; cases hf
  | bad a er =>
    rw [r3] at k3
    simp only [fPost] at k3
    refine Lib.hid ?_
    go_wp2_with (go_at_call 175; refine k3.mono ?_; rintro e w9 ⟨rfl, hg9⟩)
    refine ⟨rfl, ?_⟩
    rw [HT2.out, r3]
    exact ⟨rfl, hg9⟩
  | ok y3 j3 =>
  rw [r3] at k3
  simp only [fPost] at k3
  refine Lib.hid ?_
  have HS3 : Hid (R = .ok y3 j3) := by show _ = _; rw [HT2.out, r3]
  clear HT2 r3
  go_wp2_with (go_at_call 175; refine k3.mono ?_; rintro e v3w ⟨rfl, v3, hE3⟩)
  go_end0
  rw [HS3.out]
  exact ⟨rfl, v3, hE3⟩

set_option maxHeartbeats 1600000 in
set_option maxRecDepth 20000 in
theorem gparts_any (ps : List (Nat × Gram.Step)) (hps : ∀ n ∈ ps, CStep b g cap rv T d n.1 n.2) (hen : ∀ n ∈ ps, ∀ (args : Array Value) (wx : World), (callFunc n.1 args).run Tryz.prog wx = .ok (.enter n.1 args) wx) (w0 w : World) (q i c B p : Nat) (x : Gram.Exp) (v : Value) (hc : c + ps.length < 50) (h : Fs w0 w b g cap rv T q i d c B p (partB b (ps.map (·.1))) x v) (hf : (Gram.parts T (ps.map (·.2)) [40] x i).isFuel = false) :
    Calls Tryz.prog 174 #[.pointer (some ⟨b, 0, none⟩), .pointer (some ⟨q, 0, none⟩), .slice (some ⟨p, 0, none⟩) ps.length ps.length] w fun e w' => fPost w0 b g cap rv T q d (c + ps.length) B p (partB b (ps.map (·.1))) (Gram.parts T (ps.map (·.2)) [40] x i) e w' := by
  have hls := len_parts (some ⟨p, 0, none⟩) ps.length ps.length
  obtain ⟨R, hR⟩ : ∃ R, R = Gram.parts T (ps.map (·.2)) [40] x i := ⟨_, rfl⟩
  rw [← hR] at hf ⊢
  have HR := Lib.hid hR
  clear hR
  have HH := Lib.hid h
  clear h
  go_enter Tryz.func174, Tryz.ntmps174
  go_wp2
  go_loopg [6, 11] ps.length (fun (gk : Nat) (s6 : Value) (s11 : Value) (wr : World) => ∃ (k j : Nat) (y : Gram.Exp) (u : Value) (bf : List UInt8), k + gk = ps.length ∧ s6 = .string ⟨bf.toArray⟩ ∧ s11 = .int .i64 (k : Int) ∧ Hid (bf ≠ [] ∧ Fs w0 wr b g cap rv T q j d (c + k) B p (partB b (ps.map (·.1))) y u ∧ Gram.parts T ((ps.drop k).map (·.2)) bf y j = R))
  case atStart => exact ⟨0, i, x, v, [40], by omega, rfl, rfl, Lib.hid ⟨by simp, HH.out, HR.out.symm⟩⟩
  case round =>
    obtain ⟨k, j, y, u, bf, hk, rfl, rfl, HG⟩ := hrel
    obtain ⟨hbf, hF, hL⟩ := HG.out
    clear HG
    rcases Nat.eq_zero_or_pos gk with hz | hz
    · have hke : k = ps.length := by omega
      have hL2 : R = (Gram.expect T j [41]).bind fun _ m => .ok y m := by rw [← hL, hke, List.drop_length]; rfl
      have HL := Lib.hid hL2
      clear hL hL2
      have hnl : ¬ (k : Int) < (ps.length : Int) := by omega
      rcases Bool.eq_false_or_eq_true (Gram.sees T j [41]) with s1 | s1
      · have hX := gexpect_yes b g cap rv T j d ⟨#[41]⟩ wr hF.pa s1 (hF.pa.nextSees s1 (by decide))
        have HF := Lib.hid hF
        clear hF
        go_wp2_with (go_at_call 77; refine hX.mono ?_; rintro e w2 ⟨rfl, hP2, hg2⟩)
        go_end0
        rw [HL.out, Gram.expect_yes s1]
        exact ⟨rfl, u, (HF.out.on hg2 hP2).more (by omega)⟩
      · have hX := gexpect_no b g cap rv T j d ⟨#[41]⟩ wr hF.pa s1
        have hg1 := hF.gr
        clear hF
        go_wp2_with (go_at_call 77; refine hX.mono ?_; rintro e w2 ⟨rfl, hg2⟩)
        refine ⟨rfl, ?_⟩
        rw [HL.out, Gram.expect_no s1]
        exact ⟨rfl, hg1.trans hg2⟩
    · have hkl : k < ps.length := by omega
      have hlt : (k : Int) < (ps.length : Int) := by omega
      obtain ⟨f', hfe⟩ : ∃ f', gk = f' + 1 := ⟨gk - 1, by omega⟩
      have hd : ps.drop k = ps[k] :: ps.drop (k + 1) := List.drop_eq_getElem_cons hkl
      have hmem : ps[k] ∈ ps := List.getElem_mem hkl
      have hst := hps _ hmem
      have hent := hen _ hmem
      have hcell : wr.cell? ⟨p, k, none⟩ = some (.func (.func ps[k].1) #[.pointer (some ⟨b, 0, none⟩)] #[]) := by
        rw [cell_of_row wr p k _ _ _ hF.prow]
        simp [fnV, hkl]
      have hL2 : R = (Gram.expect T j bf).bind fun _ m => (ps[k].2 y m).bind fun y k2 => Gram.parts T ((ps.drop (k + 1)).map (·.2)) [44] y k2 := by rw [← hL, hd]; rfl
      have HL := Lib.hid hL2
      clear hL hL2 hd hmem
      obtain ⟨N, hN⟩ : ∃ N, N = ps[k].1 := ⟨_, rfl⟩
      obtain ⟨S, hS⟩ : ∃ S, S = ps[k].2 := ⟨_, rfl⟩
      rw [← hN] at hst hent hcell
      rw [← hS] at hst
      have HLS : Hid (R = (Gram.expect T j bf).bind fun _ m => (S y m).bind fun y k2 => Gram.parts T ((ps.drop (k + 1)).map (·.2)) [44] y k2) := by show _ = _; rw [HL.out, hS]
      clear HL hN hS
      rcases Bool.eq_false_or_eq_true (Gram.sees T j bf) with s1 | s1
      case inr =>
        have hX := gexpect_no b g cap rv T j d ⟨bf.toArray⟩ wr hF.pa (by simpa using s1)
        have hg1 := hF.gr
        clear hF hst
        go_wp2_with (go_at_call 77; refine hX.mono ?_; rintro e w2 ⟨rfl, hg2⟩)
        refine ⟨rfl, ?_⟩
        rw [HLS.out, Gram.expect_no s1]
        exact ⟨rfl, hg1.trans hg2⟩
      have hX := gexpect_yes b g cap rv T j d ⟨bf.toArray⟩ wr hF.pa (by simpa using s1) (hF.pa.nextSees s1 hbf)
      have HF := Lib.hid hF
      clear hF
      go_wp2_with (go_at_call 77; refine hX.mono ?_; rintro e w2 ⟨rfl, hP2, hg2⟩; refine Hid.out ?_)
      have hF2 := HF.out.on hg2 hP2
      have HR2 : Hid (R = (S y (j + 1)).bind fun y k2 => Gram.parts T ((ps.drop (k + 1)).map (·.2)) [44] y k2) := by show _ = _; rw [HLS.out, Gram.expect_yes s1]; rfl
      clear HLS
      have h2 := hst w0 w2 q (j + 1) (c + k) B p _ y u (by omega) hF2 (by rw [HR2.out] at hf; exact Gram.PR.bind_fuel hf)
      have hg2' := hF2.gr
      clear hF2 hst
      cases r2 : S y (j + 1) with
      | fuel => rw [HR2.out, r2] at hf; cases hf
      | bad a er =>
        rw [r2] at h2
        simp only [fPost] at h2
        refine Lib.hid ?_
        go_wp2_with fail
        refine h2.mono ?_
        rintro e w3 ⟨rfl, hg3⟩
        go_wp2
        refine ⟨rfl, ?_⟩
        rw [HR2.out, r2]
        exact ⟨rfl, hg3⟩
      | ok y2 j2 =>
        rw [r2] at h2
        simp only [fPost] at h2
        refine Lib.hid ?_
        go_wp2_with fail
        refine h2.mono ?_
        rintro e w3 ⟨rfl, v2, hF3⟩
        refine Hid.out ?_
        have HR3 : Hid (R = Gram.parts T ((ps.drop (k + 1)).map (·.2)) [44] y2 j2) := by show _ = _; rw [HR2.out, r2]; rfl
        have HF3 := Lib.hid hF3
        clear HR2 r2 hF3
        refine Lib.hid ?_
        go_wp2
        subst hfe
        go_roundg f'
        case measure => exact Nat.lt_succ_self _
        case rel => exact ⟨k + 1, j2, y2, v2, [44], by omega, rfl, by simp, Lib.hid ⟨by simp, HF3.out, HR3.out.symm⟩⟩
end

end Go.Proofs.YtachmiajldeakaaGreatDoor
