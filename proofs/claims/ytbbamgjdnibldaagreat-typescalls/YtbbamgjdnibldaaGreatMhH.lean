/- My texts RpVp RpYp RpZp RqAp ReA NmM TyM CrA WpL WpM TcA TcB TcC TcD, joined. -/
import Derived.Test.YtbbamgjdnibldaaGreatMhG
import Derived.Test.YtbbamgjdnibldaaGreatMhF
import Derived.Test.YtbbamgjdnibldaaGreatMhB
import Derived.Test.YtbbamgjdnibldaaGreatMhA
import Derived.Test.YtbbamgjdnibldaaGreatMhC
import Derived.Deep.QuietTactic
import Derived.BigQuiet
import Derived.Shelf.Abstract
import Derived.DeepKeys4
import Derived.Maps.OwnSet
import Derived.Maps.RangeWalk
import Derived.WalkKit
set_option linter.unusedVariables false
set_option linter.unusedSimpArgs false
set_option linter.unnecessarySimpa false
set_option linter.unusedSectionVars false
set_option maxHeartbeats 12800000
set_option maxRecDepth 20000
namespace Go.Proofs.YtbbamgjdnibldaaGreat
open Go.RowKit Go.Maps Go.WideMaps
section
variable (b g cap : Nat) (T : List Lex.Tk)
theorem rnode_plain (hV : ∀ s, Gram.Rf.is T [118, 97, 114] s = false) (f : Nat) (hC : ∀ f', f' < f → CIm b g cap T f') (s : Gram.Rf.St) (w : World) (h : Rp w b g cap T s) (hf : (Gram.Rf.node T f s).isSome = true) :
  Calls Tryz.prog 66 #[.pointer (some ⟨b, 0, none⟩)] w fun e w' => r1Post nodeD w b g cap T (Gram.Rf.node T f s) e w' := by
 have hbw := h.bl
 have hP0 := h.alloc rnod0
 obtain ⟨R, hR⟩ : ∃ R, R = Gram.Rf.node T f s := ⟨_, rfl⟩
 rw [← hR] at hf ⊢
 unfold Gram.Rf.node at hR
 have hT := rtok_any b g cap T s _ hP0
 generalize Gram.tk T s.i = y at hT hR
 obtain ⟨yk, yt, yn, yu, ya⟩ := y
 have hfd := fldAt ⟨yk, yt, yn, yu, ya⟩
 simp only [tokV] at hT hfd
 have HH := ld h
 have HR := ld hR
 clear h hR
 go_enter Tryz.func66, Tryz.ntmps66
 go_wp2_with (go_at_call 62; refine hT.mono ?_; rintro e w1 ⟨rfl, hg1⟩; refine Hid.out ?_)
 have hs1 := hg1.size
 have hS0 : Sr (w.alloc rnod0) (w1.alloc (.cells #[.string ⟨#[]⟩, .slice none 0 0, .slice none 0 0, .slice none 0 0, .slice none 0 0, .int .i64 (ya : Int)] 44)) b g cap T w1.heap.size s 44 [.c (.string ⟨#[]⟩), .l 60 5 [], .l 60 5 [], .l 60 5 [], .l 88 12 [], .c (.int .i64 (ya : Int))] [.string ⟨#[]⟩, .slice none 0 0, .slice none 0 0, .slice none 0 0, .slice none 0 0, .int .i64 (ya : Int)] :=
  Sr.make ⟨s, hP0⟩ ((hP0.kept hg1).alloc _) (galloc (grown_some hg1 b) _) hs1 (heap_alloc_new w1 _) (.cons (.c _) (.cons (RepC.nil _ _ _ _ _) (.cons (RepC.nil _ _ _ _ _) (.cons (RepC.nil _ _ _ _ _) (.cons (RepC.nil _ _ _ _ _) (.cons (.c _) .nil))))))
 rw [World.size_alloc] at hs1
 clear hT hg1
 have hS := hS0
 clear hS0
 have hK := rtake_any b g cap T s ⟨#[110, 111, 100, 101]⟩ _ hS.pa
 rw [show ((⟨#[110, 111, 100, 101]⟩ : ByteArray)).data.toList = [110, 111, 100, 101] from rfl] at hK
 have HS := ld hS
 clear hS
 refine ld ?_
 go_wp2_with (go_at_call 99; refine hK.mono ?_; rintro e x1 ⟨rfl, hPx, hgx⟩; refine Hid.out ?_)
 have hS := HS.out.on hgx hPx
 clear HS hK hPx hgx
 (try clear z0 z1 z2 z3 z4 z5 zf)
 obtain ⟨z0, z1, z2, z3, z4, z5, zf⟩ := rcells_6 (show x1.heap[w1.heap.size]? = some (.cells #[.string ⟨#[]⟩, .slice none 0 0, .slice none 0 0, .slice none 0 0, .slice none 0 0, .int .i64 (ya : Int)] 44 (0, 0)) from hS.row)
 have hN := rname_any b g cap T (Gram.Rf.take T [110, 111, 100, 101] s) _ hS.pa
 generalize hrr : Gram.Rf.name T (Gram.Rf.take T [110, 111, 100, 101] s) = rr at hN
 obtain ⟨nx, t0⟩ := rr
 have HT1 : Hid (R = Gram.Rf.bindS (if Gram.Rf.is T [41] (Gram.Rf.take T [40] t0) then some ([], Gram.Rf.take T [40] t0) else Gram.Rf.decls T f (Gram.Rf.take T [40] t0)) fun ins s1 => Gram.Rf.bindS (Gram.Rf.decls T f (Gram.Rf.take T [40] (Gram.Rf.take T [114, 101, 116, 117, 114, 110, 115] (Gram.Rf.take T [41] s1)))) fun outs s1 => Gram.Rf.bindS (if Gram.Rf.is T [118, 97, 114] (Gram.Rf.take T [41] s1) then Gram.Rf.localsL T f [] (Gram.Rf.adv (Gram.Rf.take T [41] s1)) else some ([], (Gram.Rf.take T [41] s1))) fun ls s1 => Gram.Rf.bindS (Gram.Rf.items T f [] (Gram.Rf.take T [108, 101, 116] s1)) fun its s1 => some (⟨nx, ins, outs, ls, its, (ya : Int)⟩, Gram.Rf.take T [116, 101, 108] s1)) := by show _ = _; rw [HR.out, hrr]
 simp only at hN
 have HS := ld hS
 clear hS hrr HR
 refine ld ?_
 go_wp2_with (go_at_call 100; refine hN.mono ?_; rintro e xn ⟨rfl, hPx, hgx⟩; refine Hid.out ?_)
 have hS := HS.out.on hgx hPx
 (try clear z0 z1 z2 z3 z4 z5 zf)
 obtain ⟨z0, z1, z2, z3, z4, z5, zf⟩ := rcells_6 (show xn.heap[w1.heap.size]? = some (.cells #[.string ⟨#[]⟩, .slice none 0 0, .slice none 0 0, .slice none 0 0, .slice none 0 0, .int .i64 (ya : Int)] 44 (0, 0)) from hS.row)
 have hS : Sr (w.alloc rnod0) (xn.setCell ⟨w1.heap.size, 0, none⟩ (.string ⟨nx.toArray⟩)) b g cap T w1.heap.size t0 44 [.c (.string ⟨nx.toArray⟩), .l 60 5 [], .l 60 5 [], .l 60 5 [], .l 88 12 [], .c (.int .i64 (ya : Int))] [.string ⟨nx.toArray⟩, .slice none 0 0, .slice none 0 0, .slice none 0 0, .slice none 0 0, .int .i64 (ya : Int)] := hS.set 0 (.c _)
 clear HS hN hPx hgx
 have hK := rtake_any b g cap T t0 ⟨#[40]⟩ _ hS.pa
 rw [show ((⟨#[40]⟩ : ByteArray)).data.toList = [40] from rfl] at hK
 have HS := ld hS
 clear hS
 refine ld ?_
 go_wp2_with (go_at_call 99; refine hK.mono ?_; rintro e x2 ⟨rfl, hPx, hgx⟩; refine Hid.out ?_)
 have hS := HS.out.on hgx hPx
 clear HS hK hPx hgx
 (try clear z0 z1 z2 z3 z4 z5 zf)
 obtain ⟨z0, z1, z2, z3, z4, z5, zf⟩ := rcells_6 (show x2.heap[w1.heap.size]? = some (.cells #[.string ⟨nx.toArray⟩, .slice none 0 0, .slice none 0 0, .slice none 0 0, .slice none 0 0, .int .i64 (ya : Int)] 44 (0, 0)) from hS.row)
 have hMi := ris_any b g cap T (Gram.Rf.take T [40] t0) ⟨#[41]⟩ _ hS.pa
 rw [show ((⟨#[41]⟩ : ByteArray)).data.toList = [41] from rfl] at hMi
 have HS3 := ld hS
 clear hS
 cases hqi : Gram.Rf.is T [41] (Gram.Rf.take T [40] t0) with
 | true =>
  rw [hqi] at hMi
  have HT2 : Hid (R = Gram.Rf.bindS (Gram.Rf.decls T f (Gram.Rf.take T [40] (Gram.Rf.take T [114, 101, 116, 117, 114, 110, 115] (Gram.Rf.take T [41] (Gram.Rf.take T [40] t0))))) fun outs s1 => Gram.Rf.bindS (if Gram.Rf.is T [118, 97, 114] (Gram.Rf.take T [41] s1) then Gram.Rf.localsL T f [] (Gram.Rf.adv (Gram.Rf.take T [41] s1)) else some ([], (Gram.Rf.take T [41] s1))) fun ls s1 => Gram.Rf.bindS (Gram.Rf.items T f [] (Gram.Rf.take T [108, 101, 116] s1)) fun its s1 => some (⟨nx, [], outs, ls, its, (ya : Int)⟩, Gram.Rf.take T [116, 101, 108] s1)) := by show _ = _; rw [HT1.out, hqi, if_pos rfl]; rfl
  clear HT1
  refine ld ?_
  go_wp2_with (go_at_call 63; refine hMi.mono ?_; rintro e xi ⟨rfl, hgx⟩; refine Hid.out ?_)
  have hS := HS3.out.kept0 hgx
  clear hMi hgx HS3
  (try clear z0 z1 z2 z3 z4 z5 zf)
  obtain ⟨z0, z1, z2, z3, z4, z5, zf⟩ := rcells_6 (show xi.heap[w1.heap.size]? = some (.cells #[.string ⟨nx.toArray⟩, .slice none 0 0, .slice none 0 0, .slice none 0 0, .slice none 0 0, .int .i64 (ya : Int)] 44 (0, 0)) from hS.row)
  have hK := rtake_any b g cap T (Gram.Rf.take T [40] t0) ⟨#[41]⟩ _ hS.pa
  rw [show ((⟨#[41]⟩ : ByteArray)).data.toList = [41] from rfl] at hK
  have HS := ld hS
  clear hS
  refine ld ?_
  go_wp2_with (go_at_call 99; refine hK.mono ?_; rintro e x3 ⟨rfl, hPx, hgx⟩; refine Hid.out ?_)
  have hS := HS.out.on hgx hPx
  clear HS hK hPx hgx
  (try clear z0 z1 z2 z3 z4 z5 zf)
  obtain ⟨z0, z1, z2, z3, z4, z5, zf⟩ := rcells_6 (show x3.heap[w1.heap.size]? = some (.cells #[.string ⟨nx.toArray⟩, .slice none 0 0, .slice none 0 0, .slice none 0 0, .slice none 0 0, .int .i64 (ya : Int)] 44 (0, 0)) from hS.row)
  have hK := rtake_any b g cap T (Gram.Rf.take T [41] (Gram.Rf.take T [40] t0)) ⟨#[114, 101, 116, 117, 114, 110, 115]⟩ _ hS.pa
  rw [show ((⟨#[114, 101, 116, 117, 114, 110, 115]⟩ : ByteArray)).data.toList = [114, 101, 116, 117, 114, 110, 115] from rfl] at hK
  have HS := ld hS
  clear hS
  refine ld ?_
  go_wp2_with (go_at_call 99; refine hK.mono ?_; rintro e x4 ⟨rfl, hPx, hgx⟩; refine Hid.out ?_)
  have hS := HS.out.on hgx hPx
  clear HS hK hPx hgx
  (try clear z0 z1 z2 z3 z4 z5 zf)
  obtain ⟨z0, z1, z2, z3, z4, z5, zf⟩ := rcells_6 (show x4.heap[w1.heap.size]? = some (.cells #[.string ⟨nx.toArray⟩, .slice none 0 0, .slice none 0 0, .slice none 0 0, .slice none 0 0, .int .i64 (ya : Int)] 44 (0, 0)) from hS.row)
  have hK := rtake_any b g cap T (Gram.Rf.take T [114, 101, 116, 117, 114, 110, 115] (Gram.Rf.take T [41] (Gram.Rf.take T [40] t0))) ⟨#[40]⟩ _ hS.pa
  rw [show ((⟨#[40]⟩ : ByteArray)).data.toList = [40] from rfl] at hK
  have HS := ld hS
  clear hS
  refine ld ?_
  go_wp2_with (go_at_call 99; refine hK.mono ?_; rintro e x5 ⟨rfl, hPx, hgx⟩; refine Hid.out ?_)
  have hS := HS.out.on hgx hPx
  clear HS hK hPx hgx
  (try clear z0 z1 z2 z3 z4 z5 zf)
  obtain ⟨z0, z1, z2, z3, z4, z5, zf⟩ := rcells_6 (show x5.heap[w1.heap.size]? = some (.cells #[.string ⟨nx.toArray⟩, .slice none 0 0, .slice none 0 0, .slice none 0 0, .slice none 0 0, .int .i64 (ya : Int)] 44 (0, 0)) from hS.row)
  cases hex : Gram.Rf.decls T f (Gram.Rf.take T [40] (Gram.Rf.take T [114, 101, 116, 117, 114, 110, 115] (Gram.Rf.take T [41] (Gram.Rf.take T [40] t0)))) with
  | none => rw [HT2.out, hex] at hf; cases hf
  | some r =>
  obtain ⟨l2, t2⟩ := r
  have hK := rdecls_any b g cap T f (Gram.Rf.take T [40] (Gram.Rf.take T [114, 101, 116, 117, 114, 110, 115] (Gram.Rf.take T [41] (Gram.Rf.take T [40] t0)))) _ hS.pa (by rw [hex]; rfl)
  simp only [hex, rlPost] at hK
  have HT4 : Hid (R = Gram.Rf.bindS (if Gram.Rf.is T [118, 97, 114] (Gram.Rf.take T [41] t2) then Gram.Rf.localsL T f [] (Gram.Rf.adv (Gram.Rf.take T [41] t2)) else some ([], (Gram.Rf.take T [41] t2))) fun ls s1 => Gram.Rf.bindS (Gram.Rf.items T f [] (Gram.Rf.take T [108, 101, 116] s1)) fun its s1 => some (⟨nx, [], l2, ls, its, (ya : Int)⟩, Gram.Rf.take T [116, 101, 108] s1)) := by show _ = _; rw [HT2.out, hex]; rfl
  clear HT2 hex
  have HS := ld hS
  clear hS
  refine ld ?_
  go_wp2_with (go_at_call 101; refine hK.mono ?_; rintro e x6 ⟨vx, rfl, hkx, hPx, hgx⟩; obtain ⟨p2a, p2n, p2c, rfl⟩ := hkx.form; refine Hid.out ?_)
  have hS := HS.out.on hgx hPx
  have hqx := HS.out.ql
  (try clear z0 z1 z2 z3 z4 z5 zf)
  obtain ⟨z0, z1, z2, z3, z4, z5, zf⟩ := rcells_6 (show x6.heap[w1.heap.size]? = some (.cells #[.string ⟨nx.toArray⟩, .slice none 0 0, .slice none 0 0, .slice none 0 0, .slice none 0 0, .int .i64 (ya : Int)] 44 (0, 0)) from hS.row)
  have hS : Sr (w.alloc rnod0) (x6.setCell ⟨w1.heap.size, 2, none⟩ (.slice p2a p2n p2c)) b g cap T w1.heap.size t2 44 [.c (.string ⟨nx.toArray⟩), .l 60 5 [], .l 60 5 (l2.map varD), .l 60 5 [], .l 88 12 [], .c (.int .i64 (ya : Int))] [.string ⟨nx.toArray⟩, .slice none 0 0, .slice p2a p2n p2c, .slice none 0 0, .slice none 0 0, .int .i64 (ya : Int)] := hS.set 2 (hkx.mono (Nat.succ_le_of_lt hqx)).rep
  clear HS hK hPx hgx hqx hkx
  have hK := rtake_any b g cap T t2 ⟨#[41]⟩ _ hS.pa
  rw [show ((⟨#[41]⟩ : ByteArray)).data.toList = [41] from rfl] at hK
  have HS := ld hS
  clear hS
  refine ld ?_
  go_wp2_with (go_at_call 99; refine hK.mono ?_; rintro e x7 ⟨rfl, hPx, hgx⟩; refine Hid.out ?_)
  have hS := HS.out.on hgx hPx
  clear HS hK hPx hgx
  (try clear z0 z1 z2 z3 z4 z5 zf)
  obtain ⟨z0, z1, z2, z3, z4, z5, zf⟩ := rcells_6 (show x7.heap[w1.heap.size]? = some (.cells #[.string ⟨nx.toArray⟩, .slice none 0 0, .slice p2a p2n p2c, .slice none 0 0, .slice none 0 0, .int .i64 (ya : Int)] 44 (0, 0)) from hS.row)
  have hMb := rmaybe_any b g cap T (Gram.Rf.take T [41] t2) ⟨#[118, 97, 114]⟩ _ hS.pa
  unfold Gram.Rf.maybe at hMb
  rw [show ((⟨#[118, 97, 114]⟩ : ByteArray)).data.toList = [118, 97, 114] from rfl] at hMb
  have HS4 := ld hS
  clear hS
  cases hq : Gram.Rf.is T [118, 97, 114] (Gram.Rf.take T [41] t2) with
  | true => rw [hV] at hq; cases hq
  | false =>
   rw [hq, if_neg (by decide)] at hMb
   have HT5 : Hid (R = Gram.Rf.bindS (Gram.Rf.items T f [] (Gram.Rf.take T [108, 101, 116] (Gram.Rf.take T [41] t2))) fun its s1 => some (⟨nx, [], l2, [], its, (ya : Int)⟩, Gram.Rf.take T [116, 101, 108] s1)) := by show _ = _; rw [HT4.out, hq, if_neg (by decide)]; rfl
   clear HT4
   refine ld ?_
   go_wp2_with (go_at_call 102; refine hMb.mono ?_; rintro e xm ⟨rfl, hPx, hgx⟩; refine Hid.out ?_)
   have hS := HS4.out.on hgx hPx
   clear hMb hPx hgx HS4
   (try clear z0 z1 z2 z3 z4 z5 zf)
   obtain ⟨z0, z1, z2, z3, z4, z5, zf⟩ := rcells_6 (show xm.heap[w1.heap.size]? = some (.cells #[.string ⟨nx.toArray⟩, .slice none 0 0, .slice p2a p2n p2c, .slice none 0 0, .slice none 0 0, .int .i64 (ya : Int)] 44 (0, 0)) from hS.row)
   have hK := rtake_any b g cap T (Gram.Rf.take T [41] t2) ⟨#[108, 101, 116]⟩ _ hS.pa
   rw [show ((⟨#[108, 101, 116]⟩ : ByteArray)).data.toList = [108, 101, 116] from rfl] at hK
   have HS := ld hS
   clear hS
   refine ld ?_
   go_wp2_with (go_at_call 99; refine hK.mono ?_; rintro e x12 ⟨rfl, hPx, hgx⟩; refine Hid.out ?_)
   have hS := HS.out.on hgx hPx
   clear HS hK hPx hgx
   (try clear z0 z1 z2 z3 z4 z5 zf)
   obtain ⟨z0, z1, z2, z3, z4, z5, zf⟩ := rcells_6 (show x12.heap[w1.heap.size]? = some (.cells #[.string ⟨nx.toArray⟩, .slice none 0 0, .slice p2a p2n p2c, .slice none 0 0, .slice none 0 0, .int .i64 (ya : Int)] 44 (0, 0)) from hS.row)
   cases hex : Gram.Rf.items T f [] (Gram.Rf.take T [108, 101, 116] (Gram.Rf.take T [41] t2)) with
   | none => rw [HT5.out, hex] at hf; cases hf
   | some r =>
   obtain ⟨l4, t4⟩ := r
   have hK := ritems_any b g cap T f hC (Gram.Rf.take T [108, 101, 116] (Gram.Rf.take T [41] t2)) _ hS.pa (by rw [hex]; rfl)
   simp only [hex, rlPost] at hK
   have HT7 : Hid (R = some (⟨nx, [], l2, [], l4, (ya : Int)⟩, Gram.Rf.take T [116, 101, 108] t4)) := by show _ = _; rw [HT5.out, hex]; rfl
   clear HT5 hex
   have HS := ld hS
   clear hS
   refine ld ?_
   go_wp2_with (go_at_call 104; refine hK.mono ?_; rintro e x13 ⟨vx, rfl, hkx, hPx, hgx⟩; obtain ⟨p4a, p4n, p4c, rfl⟩ := hkx.form; refine Hid.out ?_)
   have hS := HS.out.on hgx hPx
   have hqx := HS.out.ql
   (try clear z0 z1 z2 z3 z4 z5 zf)
   obtain ⟨z0, z1, z2, z3, z4, z5, zf⟩ := rcells_6 (show x13.heap[w1.heap.size]? = some (.cells #[.string ⟨nx.toArray⟩, .slice none 0 0, .slice p2a p2n p2c, .slice none 0 0, .slice none 0 0, .int .i64 (ya : Int)] 44 (0, 0)) from hS.row)
   have hS : Sr (w.alloc rnod0) (x13.setCell ⟨w1.heap.size, 4, none⟩ (.slice p4a p4n p4c)) b g cap T w1.heap.size t4 44 [.c (.string ⟨nx.toArray⟩), .l 60 5 [], .l 60 5 (l2.map varD), .l 60 5 [], .l 88 12 (l4.map itemD), .c (.int .i64 (ya : Int))] [.string ⟨nx.toArray⟩, .slice none 0 0, .slice p2a p2n p2c, .slice none 0 0, .slice p4a p4n p4c, .int .i64 (ya : Int)] := hS.set 4 (hkx.mono (Nat.succ_le_of_lt hqx)).rep
   clear HS hK hPx hgx hqx hkx
   have hK := rtake_any b g cap T t4 ⟨#[116, 101, 108]⟩ _ hS.pa
   rw [show ((⟨#[116, 101, 108]⟩ : ByteArray)).data.toList = [116, 101, 108] from rfl] at hK
   have HS := ld hS
   clear hS
   refine ld ?_
   go_wp2_with (go_at_call 99; refine hK.mono ?_; rintro e x14 ⟨rfl, hPx, hgx⟩; refine Hid.out ?_)
   have hS := HS.out.on hgx hPx
   clear HS hK hPx hgx
   (try clear z0 z1 z2 z3 z4 z5 zf)
   obtain ⟨z0, z1, z2, z3, z4, z5, zf⟩ := rcells_6 (show x14.heap[w1.heap.size]? = some (.cells #[.string ⟨nx.toArray⟩, .slice none 0 0, .slice p2a p2n p2c, .slice none 0 0, .slice p4a p4n p4c, .int .i64 (ya : Int)] 44 (0, 0)) from hS.row)
   have hgA := hS.gr
   have HSE := ld hS
   clear hS
   refine ld ?_
   go_wp2_with (with_reducible refine hold_st 2 ?_)
   refine ld ?_
   refine sg ((hgA.block w.heap.size (by simp) (by simp; omega)).trans (heap_alloc_new w rnod0)) ?_
   intro w7 hh7 hg7
   go_wp2
   (try simp only [Exit.inBlock, Exit.then])
   refine br hh7 Tryz.underlying44 ?_
   have hG : w.grownBy w7 (some b) := ((grown_some (ga w rnod0 none) b).trans hgA).andThen hg7 (fun j e => .inl (by cases e; exact Nat.le_refl _))
   obtain ⟨hkk, hss⟩ := HSE.out.ends hg7 (by simp) (by omega)
   rw [HT7.out]
   refine ⟨_, rfl, ?_, HH.out.to hG hss HSE.out.pa.lt, hG⟩
   simpa only [nodeD, itemsD_map, List.map_nil] using hkk
 | false =>
  rw [hqi] at hMi
  have HT2 : Hid (R = Gram.Rf.bindS (Gram.Rf.decls T f (Gram.Rf.take T [40] t0)) fun ins s1 => Gram.Rf.bindS (Gram.Rf.decls T f (Gram.Rf.take T [40] (Gram.Rf.take T [114, 101, 116, 117, 114, 110, 115] (Gram.Rf.take T [41] s1)))) fun outs s1 => Gram.Rf.bindS (if Gram.Rf.is T [118, 97, 114] (Gram.Rf.take T [41] s1) then Gram.Rf.localsL T f [] (Gram.Rf.adv (Gram.Rf.take T [41] s1)) else some ([], (Gram.Rf.take T [41] s1))) fun ls s1 => Gram.Rf.bindS (Gram.Rf.items T f [] (Gram.Rf.take T [108, 101, 116] s1)) fun its s1 => some (⟨nx, ins, outs, ls, its, (ya : Int)⟩, Gram.Rf.take T [116, 101, 108] s1)) := by show _ = _; rw [HT1.out, hqi, if_neg (by decide)]
  clear HT1
  refine ld ?_
  go_wp2_with (go_at_call 63; refine hMi.mono ?_; rintro e xi ⟨rfl, hgx⟩; refine Hid.out ?_)
  have hS := HS3.out.kept0 hgx
  clear hMi hgx HS3
  (try clear z0 z1 z2 z3 z4 z5 zf)
  obtain ⟨z0, z1, z2, z3, z4, z5, zf⟩ := rcells_6 (show xi.heap[w1.heap.size]? = some (.cells #[.string ⟨nx.toArray⟩, .slice none 0 0, .slice none 0 0, .slice none 0 0, .slice none 0 0, .int .i64 (ya : Int)] 44 (0, 0)) from hS.row)
  cases hex : Gram.Rf.decls T f (Gram.Rf.take T [40] t0) with
  | none => rw [HT2.out, hex] at hf; cases hf
  | some r =>
  obtain ⟨l1, t1⟩ := r
  have hK := rdecls_any b g cap T f (Gram.Rf.take T [40] t0) _ hS.pa (by rw [hex]; rfl)
  simp only [hex, rlPost] at hK
  have HT3 : Hid (R = Gram.Rf.bindS (Gram.Rf.decls T f (Gram.Rf.take T [40] (Gram.Rf.take T [114, 101, 116, 117, 114, 110, 115] (Gram.Rf.take T [41] t1)))) fun outs s1 => Gram.Rf.bindS (if Gram.Rf.is T [118, 97, 114] (Gram.Rf.take T [41] s1) then Gram.Rf.localsL T f [] (Gram.Rf.adv (Gram.Rf.take T [41] s1)) else some ([], (Gram.Rf.take T [41] s1))) fun ls s1 => Gram.Rf.bindS (Gram.Rf.items T f [] (Gram.Rf.take T [108, 101, 116] s1)) fun its s1 => some (⟨nx, l1, outs, ls, its, (ya : Int)⟩, Gram.Rf.take T [116, 101, 108] s1)) := by show _ = _; rw [HT2.out, hex]; rfl
  clear HT2 hex
  have HS := ld hS
  clear hS
  refine ld ?_
  go_wp2_with (go_at_call 101; refine hK.mono ?_; rintro e x15 ⟨vx, rfl, hkx, hPx, hgx⟩; obtain ⟨p1a, p1n, p1c, rfl⟩ := hkx.form; refine Hid.out ?_)
  have hS := HS.out.on hgx hPx
  have hqx := HS.out.ql
  (try clear z0 z1 z2 z3 z4 z5 zf)
  obtain ⟨z0, z1, z2, z3, z4, z5, zf⟩ := rcells_6 (show x15.heap[w1.heap.size]? = some (.cells #[.string ⟨nx.toArray⟩, .slice none 0 0, .slice none 0 0, .slice none 0 0, .slice none 0 0, .int .i64 (ya : Int)] 44 (0, 0)) from hS.row)
  have hS : Sr (w.alloc rnod0) (x15.setCell ⟨w1.heap.size, 1, none⟩ (.slice p1a p1n p1c)) b g cap T w1.heap.size t1 44 [.c (.string ⟨nx.toArray⟩), .l 60 5 (l1.map varD), .l 60 5 [], .l 60 5 [], .l 88 12 [], .c (.int .i64 (ya : Int))] [.string ⟨nx.toArray⟩, .slice p1a p1n p1c, .slice none 0 0, .slice none 0 0, .slice none 0 0, .int .i64 (ya : Int)] := hS.set 1 (hkx.mono (Nat.succ_le_of_lt hqx)).rep
  clear HS hK hPx hgx hqx hkx
  have hK := rtake_any b g cap T t1 ⟨#[41]⟩ _ hS.pa
  rw [show ((⟨#[41]⟩ : ByteArray)).data.toList = [41] from rfl] at hK
  have HS := ld hS
  clear hS
  refine ld ?_
  go_wp2_with (go_at_call 99; refine hK.mono ?_; rintro e x16 ⟨rfl, hPx, hgx⟩; refine Hid.out ?_)
  have hS := HS.out.on hgx hPx
  clear HS hK hPx hgx
  (try clear z0 z1 z2 z3 z4 z5 zf)
  obtain ⟨z0, z1, z2, z3, z4, z5, zf⟩ := rcells_6 (show x16.heap[w1.heap.size]? = some (.cells #[.string ⟨nx.toArray⟩, .slice p1a p1n p1c, .slice none 0 0, .slice none 0 0, .slice none 0 0, .int .i64 (ya : Int)] 44 (0, 0)) from hS.row)
  have hK := rtake_any b g cap T (Gram.Rf.take T [41] t1) ⟨#[114, 101, 116, 117, 114, 110, 115]⟩ _ hS.pa
  rw [show ((⟨#[114, 101, 116, 117, 114, 110, 115]⟩ : ByteArray)).data.toList = [114, 101, 116, 117, 114, 110, 115] from rfl] at hK
  have HS := ld hS
  clear hS
  refine ld ?_
  go_wp2_with (go_at_call 99; refine hK.mono ?_; rintro e x17 ⟨rfl, hPx, hgx⟩; refine Hid.out ?_)
  have hS := HS.out.on hgx hPx
  clear HS hK hPx hgx
  (try clear z0 z1 z2 z3 z4 z5 zf)
  obtain ⟨z0, z1, z2, z3, z4, z5, zf⟩ := rcells_6 (show x17.heap[w1.heap.size]? = some (.cells #[.string ⟨nx.toArray⟩, .slice p1a p1n p1c, .slice none 0 0, .slice none 0 0, .slice none 0 0, .int .i64 (ya : Int)] 44 (0, 0)) from hS.row)
  have hK := rtake_any b g cap T (Gram.Rf.take T [114, 101, 116, 117, 114, 110, 115] (Gram.Rf.take T [41] t1)) ⟨#[40]⟩ _ hS.pa
  rw [show ((⟨#[40]⟩ : ByteArray)).data.toList = [40] from rfl] at hK
  have HS := ld hS
  clear hS
  refine ld ?_
  go_wp2_with (go_at_call 99; refine hK.mono ?_; rintro e x18 ⟨rfl, hPx, hgx⟩; refine Hid.out ?_)
  have hS := HS.out.on hgx hPx
  clear HS hK hPx hgx
  (try clear z0 z1 z2 z3 z4 z5 zf)
  obtain ⟨z0, z1, z2, z3, z4, z5, zf⟩ := rcells_6 (show x18.heap[w1.heap.size]? = some (.cells #[.string ⟨nx.toArray⟩, .slice p1a p1n p1c, .slice none 0 0, .slice none 0 0, .slice none 0 0, .int .i64 (ya : Int)] 44 (0, 0)) from hS.row)
  cases hex : Gram.Rf.decls T f (Gram.Rf.take T [40] (Gram.Rf.take T [114, 101, 116, 117, 114, 110, 115] (Gram.Rf.take T [41] t1))) with
  | none => rw [HT3.out, hex] at hf; cases hf
  | some r =>
  obtain ⟨l2, t2⟩ := r
  have hK := rdecls_any b g cap T f (Gram.Rf.take T [40] (Gram.Rf.take T [114, 101, 116, 117, 114, 110, 115] (Gram.Rf.take T [41] t1))) _ hS.pa (by rw [hex]; rfl)
  simp only [hex, rlPost] at hK
  have HT4 : Hid (R = Gram.Rf.bindS (if Gram.Rf.is T [118, 97, 114] (Gram.Rf.take T [41] t2) then Gram.Rf.localsL T f [] (Gram.Rf.adv (Gram.Rf.take T [41] t2)) else some ([], (Gram.Rf.take T [41] t2))) fun ls s1 => Gram.Rf.bindS (Gram.Rf.items T f [] (Gram.Rf.take T [108, 101, 116] s1)) fun its s1 => some (⟨nx, l1, l2, ls, its, (ya : Int)⟩, Gram.Rf.take T [116, 101, 108] s1)) := by show _ = _; rw [HT3.out, hex]; rfl
  clear HT3 hex
  have HS := ld hS
  clear hS
  refine ld ?_
  go_wp2_with (go_at_call 101; refine hK.mono ?_; rintro e x19 ⟨vx, rfl, hkx, hPx, hgx⟩; obtain ⟨p2a, p2n, p2c, rfl⟩ := hkx.form; refine Hid.out ?_)
  have hS := HS.out.on hgx hPx
  have hqx := HS.out.ql
  (try clear z0 z1 z2 z3 z4 z5 zf)
  obtain ⟨z0, z1, z2, z3, z4, z5, zf⟩ := rcells_6 (show x19.heap[w1.heap.size]? = some (.cells #[.string ⟨nx.toArray⟩, .slice p1a p1n p1c, .slice none 0 0, .slice none 0 0, .slice none 0 0, .int .i64 (ya : Int)] 44 (0, 0)) from hS.row)
  have hS : Sr (w.alloc rnod0) (x19.setCell ⟨w1.heap.size, 2, none⟩ (.slice p2a p2n p2c)) b g cap T w1.heap.size t2 44 [.c (.string ⟨nx.toArray⟩), .l 60 5 (l1.map varD), .l 60 5 (l2.map varD), .l 60 5 [], .l 88 12 [], .c (.int .i64 (ya : Int))] [.string ⟨nx.toArray⟩, .slice p1a p1n p1c, .slice p2a p2n p2c, .slice none 0 0, .slice none 0 0, .int .i64 (ya : Int)] := hS.set 2 (hkx.mono (Nat.succ_le_of_lt hqx)).rep
  clear HS hK hPx hgx hqx hkx
  have hK := rtake_any b g cap T t2 ⟨#[41]⟩ _ hS.pa
  rw [show ((⟨#[41]⟩ : ByteArray)).data.toList = [41] from rfl] at hK
  have HS := ld hS
  clear hS
  refine ld ?_
  go_wp2_with (go_at_call 99; refine hK.mono ?_; rintro e x20 ⟨rfl, hPx, hgx⟩; refine Hid.out ?_)
  have hS := HS.out.on hgx hPx
  clear HS hK hPx hgx
  (try clear z0 z1 z2 z3 z4 z5 zf)
  obtain ⟨z0, z1, z2, z3, z4, z5, zf⟩ := rcells_6 (show x20.heap[w1.heap.size]? = some (.cells #[.string ⟨nx.toArray⟩, .slice p1a p1n p1c, .slice p2a p2n p2c, .slice none 0 0, .slice none 0 0, .int .i64 (ya : Int)] 44 (0, 0)) from hS.row)
  have hMb := rmaybe_any b g cap T (Gram.Rf.take T [41] t2) ⟨#[118, 97, 114]⟩ _ hS.pa
  unfold Gram.Rf.maybe at hMb
  rw [show ((⟨#[118, 97, 114]⟩ : ByteArray)).data.toList = [118, 97, 114] from rfl] at hMb
  have HS4 := ld hS
  clear hS
  cases hq : Gram.Rf.is T [118, 97, 114] (Gram.Rf.take T [41] t2) with
  | true => rw [hV] at hq; cases hq
  | false =>
   rw [hq, if_neg (by decide)] at hMb
   have HT5 : Hid (R = Gram.Rf.bindS (Gram.Rf.items T f [] (Gram.Rf.take T [108, 101, 116] (Gram.Rf.take T [41] t2))) fun its s1 => some (⟨nx, l1, l2, [], its, (ya : Int)⟩, Gram.Rf.take T [116, 101, 108] s1)) := by show _ = _; rw [HT4.out, hq, if_neg (by decide)]; rfl
   clear HT4
   refine ld ?_
   go_wp2_with (go_at_call 102; refine hMb.mono ?_; rintro e xm ⟨rfl, hPx, hgx⟩; refine Hid.out ?_)
   have hS := HS4.out.on hgx hPx
   clear hMb hPx hgx HS4
   (try clear z0 z1 z2 z3 z4 z5 zf)
   obtain ⟨z0, z1, z2, z3, z4, z5, zf⟩ := rcells_6 (show xm.heap[w1.heap.size]? = some (.cells #[.string ⟨nx.toArray⟩, .slice p1a p1n p1c, .slice p2a p2n p2c, .slice none 0 0, .slice none 0 0, .int .i64 (ya : Int)] 44 (0, 0)) from hS.row)
   have hK := rtake_any b g cap T (Gram.Rf.take T [41] t2) ⟨#[108, 101, 116]⟩ _ hS.pa
   rw [show ((⟨#[108, 101, 116]⟩ : ByteArray)).data.toList = [108, 101, 116] from rfl] at hK
   have HS := ld hS
   clear hS
   refine ld ?_
   go_wp2_with (go_at_call 99; refine hK.mono ?_; rintro e x25 ⟨rfl, hPx, hgx⟩; refine Hid.out ?_)
   have hS := HS.out.on hgx hPx
   clear HS hK hPx hgx
   (try clear z0 z1 z2 z3 z4 z5 zf)
   obtain ⟨z0, z1, z2, z3, z4, z5, zf⟩ := rcells_6 (show x25.heap[w1.heap.size]? = some (.cells #[.string ⟨nx.toArray⟩, .slice p1a p1n p1c, .slice p2a p2n p2c, .slice none 0 0, .slice none 0 0, .int .i64 (ya : Int)] 44 (0, 0)) from hS.row)
   cases hex : Gram.Rf.items T f [] (Gram.Rf.take T [108, 101, 116] (Gram.Rf.take T [41] t2)) with
   | none => rw [HT5.out, hex] at hf; cases hf
   | some r =>
   obtain ⟨l4, t4⟩ := r
   have hK := ritems_any b g cap T f hC (Gram.Rf.take T [108, 101, 116] (Gram.Rf.take T [41] t2)) _ hS.pa (by rw [hex]; rfl)
   simp only [hex, rlPost] at hK
   have HT7 : Hid (R = some (⟨nx, l1, l2, [], l4, (ya : Int)⟩, Gram.Rf.take T [116, 101, 108] t4)) := by show _ = _; rw [HT5.out, hex]; rfl
   clear HT5 hex
   have HS := ld hS
   clear hS
   refine ld ?_
   go_wp2_with (go_at_call 104; refine hK.mono ?_; rintro e x26 ⟨vx, rfl, hkx, hPx, hgx⟩; obtain ⟨p4a, p4n, p4c, rfl⟩ := hkx.form; refine Hid.out ?_)
   have hS := HS.out.on hgx hPx
   have hqx := HS.out.ql
   (try clear z0 z1 z2 z3 z4 z5 zf)
   obtain ⟨z0, z1, z2, z3, z4, z5, zf⟩ := rcells_6 (show x26.heap[w1.heap.size]? = some (.cells #[.string ⟨nx.toArray⟩, .slice p1a p1n p1c, .slice p2a p2n p2c, .slice none 0 0, .slice none 0 0, .int .i64 (ya : Int)] 44 (0, 0)) from hS.row)
   have hS : Sr (w.alloc rnod0) (x26.setCell ⟨w1.heap.size, 4, none⟩ (.slice p4a p4n p4c)) b g cap T w1.heap.size t4 44 [.c (.string ⟨nx.toArray⟩), .l 60 5 (l1.map varD), .l 60 5 (l2.map varD), .l 60 5 [], .l 88 12 (l4.map itemD), .c (.int .i64 (ya : Int))] [.string ⟨nx.toArray⟩, .slice p1a p1n p1c, .slice p2a p2n p2c, .slice none 0 0, .slice p4a p4n p4c, .int .i64 (ya : Int)] := hS.set 4 (hkx.mono (Nat.succ_le_of_lt hqx)).rep
   clear HS hK hPx hgx hqx hkx
   have hK := rtake_any b g cap T t4 ⟨#[116, 101, 108]⟩ _ hS.pa
   rw [show ((⟨#[116, 101, 108]⟩ : ByteArray)).data.toList = [116, 101, 108] from rfl] at hK
   have HS := ld hS
   clear hS
   refine ld ?_
   go_wp2_with (go_at_call 99; refine hK.mono ?_; rintro e x27 ⟨rfl, hPx, hgx⟩; refine Hid.out ?_)
   have hS := HS.out.on hgx hPx
   clear HS hK hPx hgx
   (try clear z0 z1 z2 z3 z4 z5 zf)
   obtain ⟨z0, z1, z2, z3, z4, z5, zf⟩ := rcells_6 (show x27.heap[w1.heap.size]? = some (.cells #[.string ⟨nx.toArray⟩, .slice p1a p1n p1c, .slice p2a p2n p2c, .slice none 0 0, .slice p4a p4n p4c, .int .i64 (ya : Int)] 44 (0, 0)) from hS.row)
   have hgA := hS.gr
   have HSE := ld hS
   clear hS
   refine ld ?_
   go_wp2_with (with_reducible refine hold_st 2 ?_)
   refine ld ?_
   refine sg ((hgA.block w.heap.size (by simp) (by simp; omega)).trans (heap_alloc_new w rnod0)) ?_
   intro w7 hh7 hg7
   go_wp2
   (try simp only [Exit.inBlock, Exit.then])
   refine br hh7 Tryz.underlying44 ?_
   have hG : w.grownBy w7 (some b) := ((grown_some (ga w rnod0 none) b).trans hgA).andThen hg7 (fun j e => .inl (by cases e; exact Nat.le_refl _))
   obtain ⟨hkk, hss⟩ := HSE.out.ends hg7 (by simp) (by omega)
   rw [HT7.out]
   refine ⟨_, rfl, ?_, HH.out.to hG hss HSE.out.pa.lt, hG⟩
   simpa only [nodeD, itemsD_map, List.map_nil] using hkk
end
section
variable (b g cap : Nat) (T : List Lex.Tk)
theorem citem_plain (hA : ∀ s, Gram.Rf.is T [97, 117, 116, 111, 109, 97, 116, 111, 110] s = false) (f : Nat) : CIm b g cap T f := by
 cases f with
 | zero => exact fun s w _ hf => (by rw [Gram.Rf.item] at hf; cases hf)
 | succ f =>
  intro s w h hf
  cases qb : Gram.Rf.is T [40] s with
  | true => exact ritem_brack b g cap T f s w h (hA s) qb hf
  | false => exact ritem_plain b g cap T f s w h (hA s) qb hf
end
section
variable (b g cap : Nat) (T : List Lex.Tk)
theorem rprogram_plain (hA : ∀ s, Gram.Rf.is T [97, 117, 116, 111, 109, 97, 116, 111, 110] s = false) (hV : ∀ s, Gram.Rf.is T [118, 97, 114] s = false) (f : Nat) (s : Gram.Rf.St) (w : World) (h : Rp w b g cap T s) (hf : (Gram.Rf.nodes T f [] s).isSome = true) :
  Calls Tryz.prog 37 #[.pointer (some ⟨b, 0, none⟩)] w fun e w' => pgPost w b g cap T (Gram.Rf.nodes T f [] s) e w' := by
 have HAV := ld (And.intro hA hV)
 clear hA hV
 obtain ⟨it, hit, hz, hsz, hby⟩ := infoP info_Node
 have hbw := h.bl
 obtain ⟨R, hR⟩ : ∃ R, R = Gram.Rf.nodes T f [] s := ⟨_, rfl⟩
 rw [← hR] at hf ⊢
 have HR := ld hR
 clear hR
 have HH := ld h
 obtain ⟨w0, hw0e⟩ : ∃ w0, w0 = w.alloc (.cells #[.slice none 0 0] 27) := ⟨_, rfl⟩
 have hs0 : w0.heap.size = w.heap.size + 1 := by rw [hw0e, World.size_alloc]
 have hw0 : w.grownBy w0 (some b) := by rw [hw0e]; exact ga w _ (some b)
 have hr0 : w0.heap[w.heap.size]? = some (.cells #[.slice none 0 0] 27 (0, 0)) := by rw [hw0e]; exact heap_alloc_new w _
 have hP0 : Rp w0 b g cap T s := by rw [hw0e]; exact h.alloc _
 have hNb0 : Pb w0 (w0.alloc (.cells #[.slice none 0 0] 27)) b g cap T (w.heap.size + 1) s [] (.slice none 0 0) := ⟨hP0.alloc _, ga w0 _ (some b), by have e := heap_alloc_new w0 (.cells #[.slice none 0 0] 27); rw [hs0] at e; exact e, GrowD.nil _ _ _ _⟩
 have HP0 := ld hP0
 have HNb0 := ld hNb0
 have HW0 := ld hw0e
 have hbq : b < w.heap.size + 1 := by omega
 clear h hP0 hNb0 hw0e
 go_enter Tryz.func37, Tryz.ntmps37
 go_wp2
 go_loopg [] f (fun (f' : Nat) (wr : World) => ∃ (acc : List Gram.Node) (s' : Gram.Rf.St) (pa : Option Addr) (pn pc : Nat), f' ≤ f ∧ acc.length ≤ 60 ∧ Hid (Pb w0 wr b g cap T (w.heap.size + 1) s' acc (.slice pa pn pc) ∧ Gram.Rf.nodes T f' acc s' = R))
 case atStart => exact ⟨[], s, none, 0, 0, Nat.le_refl _, by simp, ld ⟨by rw [← HW0.out]; exact HNb0.out, HR.out.symm⟩⟩
 case round =>
  obtain ⟨acc, s', pa, pn, pc, hff, ha16, HG⟩ := hrel
  obtain ⟨hNb, hL⟩ := HG.out
  clear HG HNb0 HW0 HR
  rcases Nat.eq_zero_or_pos gk with hz0 | hz0
  ·rw [hz0] at hL; rw [← hL] at hf; exact absurd hf (by simp [Gram.Rf.nodes])
  obtain ⟨f', hfe⟩ : ∃ f', gk = f' + 1 := ⟨gk - 1, by omega⟩
  subst hfe
  rw [Gram.Rf.nodes] at hL
  have hP := hNb.p
  have p2 := hP.st.c2
  have z0 := hNb.c0
  have zf := hNb.fr
  have hlf : ∀ (ty : TypeId) (wx : World), (Builtin.len_ #[25] ty #[.slice pa pn pc]).run Tryz.prog wx = .ok (.int .i64 (acc.length : Int)) wx := by
   obtain ⟨xs, ho, _⟩ := hNb.gro
   rw [List.length_map] at ho
   exact fun ty wx => len_Node ho ty wx
  have HNb := ld hNb
  clear hNb
  by_cases he : s'.e = 0
  ·have b0 : (s'.e == 0) = true := by rw [beq_iff_eq]; exact he
   have hn := rtok_any b g cap T s' wr hP
   generalize Gram.tk T s'.i = y at hn hL
   obtain ⟨yk, yt, yn, yu, ya⟩ := y
   have hfk := fldKind ⟨yk, yt, yn, yu, ya⟩
   simp only [tokV] at hn hfk
   simp only at hL
   by_cases hk : yk = 5
   ·have bk : (yk != 5) = false := bne_t (by rw [beq_iff_eq]; exact hk)
    rw [if_neg (fun e => e.2 hk)] at hL
    have HTx : Hid (R = some (acc, s')) := ld hL.symm
    clear hL he hk z0 zf
    generalize s'.e = e0 at p2 b0
    go_wp2_with (go_at_call 62; refine hn.mono ?_; rintro e w4 ⟨rfl, hg4⟩; refine Hid.out ?_)
    have HNx := ld (HNb.out.on hbq (grown_some hg4 b) (hP.kept hg4))
    have z0 := HNx.out.c0
    clear HNb hn hg4 hP p2
    have hgA := HNx.out.g'
    refine ld ?_
    go_wp2_with (with_reducible refine hold_st 2 ?_)
    refine ld ?_
    refine sg ((hgA.block w.heap.size (by omega) (by simp; omega)).trans hr0) ?_
    intro w7 hh7 hg7
    go_wp2
    (try simp only [Exit.inBlock, Exit.then])
    refine br hh7 Tryz.underlying27 ?_
    have hG : w.grownBy w7 (some b) := (hw0.trans hgA).andThen hg7 (fun j e => .inl (by cases e; exact Nat.le_refl _))
    rw [HTx.out]
    exact ⟨_, rfl, (HNx.out.gro.kept hg7 (fun k e => by cases e; omega)).mono (by omega), HH.out.to hG (HNx.out.p.st.kept hg7 (by simp; omega)) HNx.out.p.lt, hG⟩
   have bk : (yk != 5) = true := bne_f (by rw [beq_eq_false_iff_ne]; exact hk)
   rw [if_pos ⟨he, hk⟩] at hL
   have hIs := fun wx (hx : Rp wx b g cap T s') => ris_any b g cap T s' ⟨#[110, 111, 100, 101]⟩ wx hx
   rw [show ((⟨#[110, 111, 100, 101]⟩ : ByteArray)).data.toList = [110, 111, 100, 101] from rfl] at hIs
   clear he hk z0 zf
   cases hq : Gram.Rf.is T [110, 111, 100, 101] s' with
   | false =>
    rw [hq] at hIs hL
    rw [if_neg (by decide)] at hL
    have HTx : Hid (R = some (acc, Gram.Rf.fail T 12 s')) := ld hL.symm
    have hfl := fun wx (hx : Rp wx b g cap T s') => rfail_any b g cap T s' 12 wx hx
    generalize Gram.Rf.fail T 12 s' = t at HTx hfl
    clear hL
    generalize s'.e = e0 at p2 b0
    go_wp2_with (first | (go_at_call 64; refine (hfl _ ((hP.kept hg4).kept hg2)).mono ?_; rintro e w3 ⟨rfl, hP3, hg3⟩; refine Hid.out ?_) | (go_at_call 62; refine hn.mono ?_; rintro e w4 ⟨rfl, hg4⟩) | (go_at_call 63; refine (hIs _ (hP.kept hg4)).mono ?_; rintro e w2 ⟨rfl, hg2⟩))
    have HNx := ld (HNb.out.on hbq ((grown_some (hg4.trans hg2) b).trans hg3) hP3)
    have z0 := HNx.out.c0
    clear HNb hn hg4 hP p2 hIs hfl hg2 hg3 hP3
    have hgA := HNx.out.g'
    refine ld ?_
    go_wp2_with (with_reducible refine hold_st 2 ?_)
    refine ld ?_
    refine sg ((hgA.block w.heap.size (by omega) (by simp; omega)).trans hr0) ?_
    intro w7 hh7 hg7
    go_wp2
    (try simp only [Exit.inBlock, Exit.then])
    refine br hh7 Tryz.underlying27 ?_
    have hG : w.grownBy w7 (some b) := (hw0.trans hgA).andThen hg7 (fun j e => .inl (by cases e; exact Nat.le_refl _))
    rw [HTx.out]
    exact ⟨_, rfl, (HNx.out.gro.kept hg7 (fun k e => by cases e; omega)).mono (by omega), HH.out.to hG (HNx.out.p.st.kept hg7 (by simp; omega)) HNx.out.p.lt, hG⟩
   | true =>
    rw [hq] at hIs hL
    rw [if_pos rfl] at hL
    by_cases hm : 60 ≤ acc.length
    ·rw [if_pos hm] at hL
     have HTx : Hid (R = some (acc, Gram.Rf.fail T 2 s')) := ld hL.symm
     have hrm := fun wx (hx : Rp wx b g cap T s') => rfull_yes b g cap T s' (acc.length : Int) 60 (by omega) wx hx
     generalize Gram.Rf.fail T 2 s' = t at HTx hrm
     clear hL
     generalize s'.e = e0 at p2 b0
     go_wp2_with (first | (go_at_call 62; refine hn.mono ?_; rintro e w4 ⟨rfl, hg4⟩) | (go_at_call 63; refine (hIs _ (hP.kept hg4)).mono ?_; rintro e w2 ⟨rfl, hg2⟩; refine Hid.out ?_))
     have hN2 := HNb.out.on hbq (grown_some (hg4.trans hg2) b) ((hP.kept hg4).kept hg2)
     have z0 := hN2.c0
     refine ld ?_
     go_wp2_with (go_at_call 65; refine (hrm _ hN2.p).mono ?_; rintro e w3 ⟨rfl, hP3, hg3⟩; refine Hid.out ?_)
     have HNx := ld (hN2.on hbq hg3 hP3)
     clear z0
     have z0 := HNx.out.c0
     clear hN2 HNb hn hg4 hP p2 hIs hrm hg2 hg3 hP3
     have hgA := HNx.out.g'
     refine ld ?_
     go_wp2_with (with_reducible refine hold_st 2 ?_)
     refine ld ?_
     refine sg ((hgA.block w.heap.size (by omega) (by simp; omega)).trans hr0) ?_
     intro w7 hh7 hg7
     go_wp2
     (try simp only [Exit.inBlock, Exit.then])
     refine br hh7 Tryz.underlying27 ?_
     have hG : w.grownBy w7 (some b) := (hw0.trans hgA).andThen hg7 (fun j e => .inl (by cases e; exact Nat.le_refl _))
     rw [HTx.out]
     exact ⟨_, rfl, (HNx.out.gro.kept hg7 (fun k e => by cases e; omega)).mono (by omega), HH.out.to hG (HNx.out.p.st.kept hg7 (by simp; omega)) HNx.out.p.lt, hG⟩
    rw [if_neg hm] at hL
    have hrm := fun wx => rfull_no b (acc.length : Int) 60 (by omega) wx
    cases hex : Gram.Rf.node T f' s' with
    | none => rw [← hL, hex] at hf; cases hf
    | some r =>
    obtain ⟨x, s2⟩ := r
    obtain ⟨nm, ins, outs, ls, its, at_⟩ := x
    have hSt : ∀ wx, Rp wx b g cap T s' → Calls Tryz.prog 66 #[.pointer (some ⟨b, 0, none⟩)] wx fun e w' => ∃ a1 n1 c1 a2 n2 c2 a3 n3 c3 a4 n4 c4, e = .returned (.agg #[.string ⟨nm.toArray⟩, .slice a1 n1 c1, .slice a2 n2 c2, .slice a3 n3 c3, .slice a4 n4 c4, .int .i64 at_]) ∧ RepRow w' wx.heap.size [] (nodeD ⟨nm, ins, outs, ls, its, at_⟩) [.string ⟨nm.toArray⟩, .slice a1 n1 c1, .slice a2 n2 c2, .slice a3 n3 c3, .slice a4 n4 c4, .int .i64 at_] ∧ Rp w' b g cap T s2 ∧ wx.grownBy w' (some b) := by
     intro wx hx
     have h9 := rnode_plain b g cap T HAV.out.2 f' (fun f'' _ => citem_plain b g cap T HAV.out.1 f'') s' wx hx (by rw [hex]; rfl)
     simp only [hex, r1Post] at h9
     refine h9.mono ?_
     rintro e w' ⟨vs, rfl, hr, hP9, hg9⟩
     obtain ⟨a1, n1, c1, a2, n2, c2, a3, n3, c3, a4, n4, c4, e9⟩ := nodeInv hr
     subst e9
     exact ⟨a1, n1, c1, a2, n2, c2, a3, n3, c3, a4, n4, c4, rfl, hr, hP9, hg9⟩
    have HE : Hid (Gram.Rf.nodes T f' (acc ++ [⟨nm, ins, outs, ls, its, at_⟩]) s2 = R) := by show _ = _; rw [← hL, hex]; rfl
    clear hL hex
    generalize s'.e = e0 at p2 b0
    go_wp2_with (first | (go_at_call 62; refine hn.mono ?_; rintro e w4 ⟨rfl, hg4⟩) | (go_at_call 63; refine (hIs _ (hP.kept hg4)).mono ?_; rintro e w2 ⟨rfl, hg2⟩; refine Hid.out ?_))
    obtain ⟨WB, hWB⟩ : ∃ WB, WB = w2.drew := ⟨_, rfl⟩
    have hN2 := HNb.out.on hbq (grown_some (hg4.trans hg2) b) ((hP.kept hg4).kept hg2)
    have z0 := hN2.c0
    have zf := hN2.fr
    have hNW : Pb w0 WB b g cap T (w.heap.size + 1) s' acc (.slice pa pn pc) := by rw [hWB]; exact hN2.on hbq (grown_some (gdrew (World.grownBy.refl w2 none)) b) hN2.p.drew
    have hce := hSt WB hNW.p
    have HNW := ld hNW
    have hS0 : WB.cell? ⟨w.heap.size + 1, 0, none⟩ = some (.slice pa pn pc) := hNW.c0
    clear hNW hN2 hSt hIs hn
    refine ld ?_
    go_wp2_with (go_at_call 65; refine (hrm _).mono ?_; rintro e w8 ⟨rfl, hw8⟩; rw [hw8]; clear hw8)
    refine wp_region_L (S := fun w' => w'.cell? ⟨w.heap.size + 1, 0, none⟩ = some (.slice pa pn pc)) (Z := [7]) (by kernel_rfl) ?_
    rw [← hWB]
    clear hWB z0 zf
    refine wpL_take (i := 0) (v := .pointer (some ⟨w.heap.size + 1, 0, none⟩)) rfl (by kernel_rfl) (by kernel_rfl) (by kernel_rfl) (fun _ _ _ h => h) (by kernel_rfl) (.inl ⟨rfl, fun w' hw' => ?_⟩) hS0 ?_
    ·go_simp
    refine wpL_take (i := 1) (v := .slice pa pn pc) rfl (by kernel_rfl) (by kernel_rfl) (by kernel_rfl) (fun _ _ _ h => h) (by kernel_rfl) (.inl ⟨rfl, fun w' hw' => ?_⟩) hS0 ?_
    ·go_simp
    refine wpL_take (i := 2) (v := .pointer (some ⟨b, 0, none⟩)) rfl (by kernel_rfl) (by kernel_rfl) (by kernel_rfl) (fun _ _ _ h => h) (by kernel_rfl) (.inl ⟨rfl, fun w' hw' => ?_⟩) hS0 ?_
    ·go_simp
    refine wpL_one (i := 3) (by kernel_rfl) ?_
    refine wpOp_step rfl (fun K' hK => ?_)
    split
    case isFalse hno => exact absurd rfl hno
    unfold Oper.wp
    go_simp
    refine hce.mono ?_
    rintro e w8 ⟨a1, n1, c1, a2, n2, c2, a3, n3, c3, a4, n4, c4, rfl, hk8, hp8, hg8⟩
    have H8 := HNW.out.on hbq hg8 hp8
    have hqlW := HNW.out.ql
    refine hK _ _ ⟨fun _ => H8.c0, ?_⟩
    clear hK K'
    refine wpL_one (i := 4) (by kernel_rfl) ?_
    refine wpOp_step rfl (fun K' hK => ?_)
    split
    case isFalse hno => exact absurd rfl hno
    unfold Oper.wp
    go_simp
    have H9 := H8.on hbq (ga w8 (.cells #[.string ⟨nm.toArray⟩, .slice a1 n1 c1, .slice a2 n2 c2, .slice a3 n3 c3, .slice a4 n4 c4, .int .i64 at_] 44) (some b)) (H8.p.alloc _)
    refine hK _ _ ⟨fun _ => H9.c0, ?_⟩
    clear hK K'
    have hql8 := H8.ql
    have hltW := HNW.out.gro.lt
    obtain ⟨xs2, ho2, hr2⟩ := H8.gro
    rw [List.length_map] at ho2
    refine wpL_one (i := 5) (by kernel_rfl) ?_
    refine wpOp_step rfl (fun K' hK => ?_)
    split
    case isFalse hno => exact absurd rfl hno
    refine wp_append_at _ _ 25 rfl (w.heap.size + 1 + 1) 44 it _ 6 120 Tryz.underlying25 hit hz hsz hby rfl (by decide) (.slice pa pn pc) acc.length xs2 rfl (ho2.alloc _) ⟨w8.heap.size, 0, none⟩ 1 1 [.string ⟨nm.toArray⟩, .slice a1 n1 c1, .slice a2 n2 c2, .slice a3 n3 c3, .slice a4 n4 c4, .int .i64 at_] rfl rfl (cell_row_new w8 [.string ⟨nm.toArray⟩, .slice a1 n1 c1, .slice a2 n2 c2, .slice a3 n3 c3, .slice a4 n4 c4, .int .i64 at_] 44) (by simp [Value.oneCell']) ?_ ?_ ?_ ?_
    ·unfold maxLen; omega
    ·omega
    ·simp only [World.size_alloc]; omega
    intro v' w9 hown' hgrow9 _ hvb
    have hrx : RepRow w8 (w.heap.size + 1 + 1) (Value.slice pa pn pc).ownBlock.toList (nodeD ⟨nm, ins, outs, ls, its, at_⟩) [.string ⟨nm.toArray⟩, .slice a1 n1 c1, .slice a2 n2 c2, .slice a3 n3 c3, .slice a4 n4 c4, .int .i64 at_] := RepRow.mono (by omega) (RepRow.toX (Value.slice pa pn pc).ownBlock.toList (fun k e => .inr (hltW k e)) hk8)
    have hG9 : GrowD w9 (w.heap.size + 1 + 1) 44 6 (acc.map nodeD ++ [nodeD ⟨nm, ins, outs, ls, its, at_⟩]) v' := growD_snoc hgrow9 (by rw [List.length_map]; exact hown') (RepRow.keptX (ga w8 _ none) (fun k e => by cases e) hr2) (RepRow.keptX (ga w8 _ none) (fun k e => by cases e) hrx) (by first | exact hvb | (rw [World.size_alloc] at hvb; rw [World.size_alloc]; exact hvb))
    have hG9b : w0.grownBy w9 (some b) := H9.g'.andThen hgrow9 (fun j e => .inl (by have := (ho2.lt j e).1; omega))
    have hq9 : ∀ k, k ≤ w.heap.size + 1 → some k ≠ (Value.slice pa pn pc).ownBlock := fun k hk e => by have := (ho2.lt k e.symm).1; omega
    have hP9 : Rp w9 b g cap T s2 := HP0.out.to hG9b (H9.p.st.kept hgrow9 (hq9 b (by omega))) H9.p.lt
    have hrow9 := (hgrow9.block (w.heap.size + 1) H9.ql (hq9 _ (Nat.le_refl _))).trans H9.row
    obtain ⟨va, vn, vc, rfl⟩ := hG9.form
    have hfr9 : ∀ j, w9.frozen? ⟨w.heap.size + 1, j, none⟩ = false := fun j => frozen_of_row w9 _ j _ _ hrow9
    have hc9 : w9.cell? ⟨w.heap.size + 1, 0, none⟩ = some (.slice pa pn pc) := cell_of_row w9 _ 0 _ _ _ hrow9
    refine hK _ _ ⟨fun _ => hc9, ?_⟩
    clear hK K'
    refine wpL_one (i := 6) (by kernel_rfl) ?_
    refine wpOp_step rfl (fun K' hK => ?_)
    split
    case isFalse hno => exact absurd rfl hno
    unfold Oper.wp
    go_simp
    refine hK _ _ ⟨fun _ => hc9, ?_⟩
    clear hK K'
    have hNn : Pb w0 (w9.setCell ⟨w.heap.size + 1, 0, none⟩ (.slice va vn vc)) b g cap T (w.heap.size + 1) s2 (acc ++ [⟨nm, ins, outs, ls, its, at_⟩]) (.slice va vn vc) := by
     have hg' : w0.grownBy (w9.setCell ⟨w.heap.size + 1, 0, none⟩ (.slice va vn vc)) (some b) := gset hG9b (.inl (by show w0.heap.size ≤ w.heap.size + 1; omega)) _
     refine ⟨HP0.out.to hg' (hP9.st.kept (grown_set w9 ⟨w.heap.size + 1, 0, none⟩ _) (by simp; omega)) hP9.lt, hg', ?_, ?_⟩
     ·rw [heap_setCell_same w9 (w.heap.size + 1) 0 _ _ _ hrow9]; simp
     ·rw [List.map_append]; exact GrowD.kept (grown_set w9 ⟨w.heap.size + 1, 0, none⟩ _) (fun k e => by cases e; exact Nat.lt_succ_self _) hG9
    refine wpL_one (i := 7) (by kernel_rfl) ?_
    refine wpOp_step rfl (fun K' hK => ?_)
    split
    case isFalse hno => exact absurd rfl hno
    unfold Oper.wp
    go_simp
    refine hK _ _ ⟨fun hno => absurd (by simp) hno, ?_⟩
    clear hK K'
    refine wpL_done (by kernel_rfl) ?_ _
    have HNn := ld hNn
    clear hNn hc9 hfr9 hrow9 hP9 hG9b hG9 hgrow9 hown' hvb H9 H8 hr2 ho2 hg8 hp8 HNW hS0 hce
    go_wp2
    go_roundg f'
    case measure => exact Nat.lt_succ_self _
    case rel => exact ⟨acc ++ [⟨nm, ins, outs, ls, its, at_⟩], s2, va, vn, vc, by omega, by simp; omega, ld ⟨HNn.out, HE.out⟩⟩
  ·have b0 : (s'.e == 0) = false := by rw [beq_eq_false_iff_ne]; exact he
   rw [if_neg (fun e => he e.1)] at hL
   have HTx : Hid (R = some (acc, s')) := ld hL.symm
   have HNx := HNb
   clear hL he HNb hP
   generalize s'.e = e0 at p2 b0
   refine Hid.out ?_
   have hgA := HNx.out.g'
   refine ld ?_
   go_wp2_with (with_reducible refine hold_st 2 ?_)
   refine ld ?_
   refine sg ((hgA.block w.heap.size (by omega) (by simp; omega)).trans hr0) ?_
   intro w7 hh7 hg7
   go_wp2
   (try simp only [Exit.inBlock, Exit.then])
   refine br hh7 Tryz.underlying27 ?_
   have hG : w.grownBy w7 (some b) := (hw0.trans hgA).andThen hg7 (fun j e => .inl (by cases e; exact Nat.le_refl _))
   rw [HTx.out]
   exact ⟨_, rfl, (HNx.out.gro.kept hg7 (fun k e => by cases e; omega)).mono (by omega), HH.out.to hG (HNx.out.p.st.kept hg7 (by simp; omega)) HNx.out.p.lt, hG⟩
end
theorem rparse_plain (s : ByteArray) (w : World) (hav : ∀ T, Lex.tokens s.data.toList = .ok T → (∀ x, Gram.Rf.is T [97, 117, 116, 111, 109, 97, 116, 111, 110] x = false) ∧ ∀ x, Gram.Rf.is T [118, 97, 114] x = false) (hf : Gram.Rf.parse s.data.toList ≠ .fuel) : Calls Tryz.prog 18 #[.string s] w fun e w' => rpsPost w (Gram.Rf.parse s.data.toList) e w' := by
 have HAV := ld hav
 clear hav
 obtain ⟨W0, hW0⟩ : ∃ W, W = w.alloc prE := ⟨_, rfl⟩
 have hgW : w.grownBy W0 none := by rw [hW0]; exact ga w _ none
 have hr0 : W0.heap[w.heap.size]? = some prE := by rw [hW0]; exact heap_alloc_new w _
 have hs0 : W0.heap.size = w.heap.size + 1 := by rw [hW0]; simp
 have hT := rtokens_any s W0
 rw [hW0] at hT
 unfold prE at hT
 have HW0 := ld hW0
 clear hW0
 cases hr : Lex.tokens s.data.toList with
 | err p x =>
  rw [hr] at hT
  simp only [tkRel] at hT
  have hR : Gram.Rf.parse s.data.toList = .bad (p : Int) x := by unfold Gram.Rf.parse; rw [hr]
  rw [hR]
  clear hf hR hr
  go_enter Tryz.func18, Tryz.ntmps18
  go_wp2_with (first | (go_at_call 36; refine hT.mono ?_; rintro e w1 ⟨v, a, er, rfl, ⟨rfl, rfl, rfl, hx⟩, hg1⟩; refine Hid.out ?_))
  rw [show (Obj.cells #[Value.slice none 0 0] 27) = prE from rfl, ← HW0.out] at hg1
  have hce := (hg1.block w.heap.size (by omega) (by simp)).trans hr0
  have hx2 : (er != 0) = true := by simp [hx]
  have HG := ld (hgW.trans hg1)
  have HX := ld hx
  clear hg1 hT hx HW0
  refine ld ?_
  go_wp2_with (with_reducible refine hold_st 2 ?_)
  refine ld ?_
  refine sg hce ?_
  intro w7 hh7 hg7
  go_wp2
  (try simp only [Exit.inBlock, Exit.then])
  refine bodyPost_ret (results_cell_tmp2 rfl _ _ w.heap.size 27 _ (0, 0) _ _ _ rfl rfl rfl hh7 Tryz.underlying27 rfl (by kernel_rfl)) rfl ?_
  exact ⟨rfl, HX.out, HG.out.andThen hg7 (fun j e => .inl (by cases e; exact Nat.le_refl _))⟩
 | ok T =>
  have HAT := ld (HAV.out T hr)
  rw [hr] at hT
  simp only [tkRel] at hT
  obtain ⟨hm, h0, hlast⟩ := tokens_end hr
  cases hq : Gram.Rf.nodes T (20 * T.length + 100) [] ⟨0, 0, 0, 0⟩ with
  | none => exact absurd (by unfold Gram.Rf.parse; rw [hr]; simp only [hq]) hf
  | some x =>
  obtain ⟨l, s'⟩ := x
  have hR : Gram.Rf.parse s.data.toList = if s'.e = 0 then .ok l else .bad s'.bad s'.e := by unfold Gram.Rf.parse; rw [hr]; simp only [hq]
  obtain ⟨R, hRR⟩ : ∃ R, R = (if s'.e = 0 then Gram.Rf.Res.ok l else .bad s'.bad s'.e) := ⟨_, rfl⟩
  rw [hR, ← hRR]
  have HR := ld hRR
  clear hf hR hr hRR
  go_enter Tryz.func18, Tryz.ntmps18
  go_wp2_with (first | (go_at_call 36; refine hT.mono ?_; rintro e w1 ⟨v, a, er, rfl, ⟨rfl, rfl, hown⟩, hg1⟩; obtain ⟨g, cap, rfl⟩ : ∃ g cap, v = .slice (some ⟨g, 0, none⟩) T.length cap := (by rcases hown.2 with ⟨_, h9⟩ | ⟨g, cap, cur, e, _⟩; exact absurd h9 (by omega); exact ⟨g, cap, e⟩); refine Hid.out ?_))
  rw [show (Obj.cells #[Value.slice none 0 0] 27) = prE from rfl, ← HW0.out] at hg1
  have hgA := hgW.trans hg1
  have hce1 := (hg1.block w.heap.size (by omega) (by simp)).trans hr0
  have hs1 := hg1.size
  obtain ⟨W2, hW2⟩ : ∃ W2, W2 = w1.alloc (.cells #[.slice (some ⟨g, 0, none⟩) T.length cap, .int .i64 0, .int .i64 0, .int .i64 0, .int .i64 0] 81 (0, 0)) := ⟨_, rfl⟩
  have hg2 : w1.grownBy W2 none := by rw [hW2]; exact ga w1 _ none
  have hgl : g < w1.heap.size := (hown.lt g rfl).2
  have hP2 : Rp W2 w1.heap.size g cap T ⟨0, 0, 0, 0⟩ := ⟨⟨(hown.mono (Nat.zero_le _)).kept hg2 (by simp [Value.ownBlock]), by omega, hm, hlast⟩, by unfold Rst; rw [hW2]; exact heap_alloc_new w1 _, h0⟩
  have hpg := rprogram_plain w1.heap.size g cap T HAT.out.1 HAT.out.2 (20 * T.length + 100) ⟨0, 0, 0, 0⟩ W2 hP2 (by rw [hq]; rfl)
  rw [hq] at hpg
  simp only [pgPost] at hpg
  rw [hW2] at hpg
  have HG2 := ld hg2
  have HW2 := ld hW2
  have hs2 : W2.heap.size = w1.heap.size + 1 := by rw [hW2]; simp
  have hce2 := (hg2.block w.heap.size (by omega) (by simp)).trans hce1
  clear hT hg2 hW2 hq hown hP2 hlast
  refine ld ?_
  go_wp2_with (first | (go_at_call 37; refine hpg.mono ?_; rintro e w3 ⟨v3, rfl, hk3, hP3, hg3⟩; obtain ⟨va, vn, vc, rfl⟩ := hk3.form; refine Hid.out ?_))
  rw [← HW2.out] at hg3 hk3
  have hce3 := (hg3.block w.heap.size (by omega) (by simp; omega)).trans hce2
  have hsz3 := hg3.size
  refine ld ?_
  go_wp2_with (with_reducible refine hold_st 9 ?_)
  refine ld ?_
  refine sg (heap_alloc_new w3 _) ?_
  intro w5 hh5 hg5
  have hgx : w3.grownBy w5 none := (ga w3 _ none).andThen hg5 (fun j e => .inl (by cases e; exact Nat.le_refl _))
  have hP5 := hP3.kept hgx
  have p2 := hP5.st.c2
  have p3 := hP5.st.c3
  have z5 := cell_of_row w5 _ 0 _ _ _ hh5
  have hce5 := (hgx.block w.heap.size (by omega) (by simp)).trans hce3
  have hk5 : RepC w5 W2.heap.size [] (.l 44 6 (l.map nodeD)) (.slice va vn vc) := RepC.kept hgx (fun k e => by cases e) hk3.rep
  have hG5 : w.grownBy w5 none := (hgA.trans (HG2.out.andThen hg3 (fun j e => .inl (by cases e; exact Nat.le_refl _)))).trans hgx
  have HK := ld (And.intro hk5 (And.intro hG5 hce5))
  clear hk5 hk3 hG5 hP5 hP3 hg5 hgx hg3 hce3 hpg HG2 HW2 HW0 hh5
  by_cases he : s'.e = 0
  ·have HR2 := ld (HR.out.trans (if_pos he))
   rw [he] at p2
   clear p3 he HR
   go_wp2_with (with_reducible refine hold_st 2 ?_)
   refine ld ?_
   refine sg hce5 ?_
   intro w7 hh7 hg7
   go_wp2
   (try simp only [Exit.inBlock, Exit.then])
   refine bodyPost_ret (results_cell_tmp2 rfl _ _ w.heap.size 27 _ (0, 0) _ _ _ rfl rfl rfl hh7 Tryz.underlying27 rfl (by kernel_rfl)) rfl ?_
   rw [HR2.out]
   exact ⟨_, _, _, rfl, RepC.mono (by omega) (RepC.kept hg7 (fun k e => by cases e; omega) HK.out.1), HK.out.2.1.andThen hg7 (fun j e => .inl (by cases e; exact Nat.le_refl _))⟩
  ·have HR2 := ld (HR.out.trans (if_neg he))
   clear HR
   have hb : (s'.e != 0) = true := by simp [he]
   have HE := ld he
   clear he
   generalize s'.e = e0 at *
   generalize s'.bad = b0 at *
   have c0 : w5.cell? ⟨w.heap.size, 0, none⟩ = some (.slice none 0 0) := cell_of_row w5 _ 0 _ _ _ hce5
   have d0 := frozen_of_row w5 _ 0 _ _ hce5
   clear hce5
   go_wp2
   go_region
   go_wp2
   (try simp only [Exit.inBlock, Exit.then])
   refine bodyPost_ret (results_cell_tmp2 rfl _ _ w.heap.size 27 #[.slice none 0 0] (0, 0) _ _ _ rfl rfl rfl (row1_set HK.out.2.2 _) Tryz.underlying27 rfl (by kernel_rfl)) rfl ?_
   rw [HR2.out]
   exact ⟨rfl, HE.out, gdrew (HK.out.2.1.andThen (grown_set w5 ⟨w.heap.size, 0, none⟩ _) (fun j e => .inl (by cases e; exact Nat.le_refl _)))⟩
theorem gl {w : World} {b : Nat} {o : Obj} (h : w.heap[b]? = some o) : b < w.heap.size := (Array.getElem?_eq_some_iff.1 h).1
section
variable {w : World} {B : Nat} {E : List Nat}
theorem nRow.drop : ∀ {ds : List D} {vs : List Value} (j : Nat), RepRow w B E ds vs → RepRow w B E (ds.drop j) (vs.drop j)
 | _, _, 0, h => by simpa using h
 | _, _, _ + 1, .nil => by simpa using RepRow.nil
 | _, _, j + 1, .cons _ t => by simpa using nRow.drop j t
theorem nRow.take : ∀ {ds : List D} {vs : List Value} (j : Nat), RepRow w B E ds vs → RepRow w B E (ds.take j) (vs.take j)
 | _, _, 0, _ => by simpa using RepRow.nil
 | _, _, _ + 1, .nil => by simpa using RepRow.nil
 | _, _, j + 1, .cons h t => by simpa using RepRow.cons h (nRow.take j t)
theorem nFlatAt {sz : Nat} : ∀ {l : List (List D)}, (∀ r ∈ l, r.length = sz) → ∀ {i : Nat} {r : List D}, l[i]? = some r → (l.flatten.drop (i * sz)).take sz = r
 | [], _, i, r, h => by simp at h
 | a :: l, hs, 0, r, h => by
  simp at h; subst h
  rw [Nat.zero_mul, List.drop_zero, List.flatten_cons, List.take_append_of_le_length (by rw [hs _ List.mem_cons_self]; exact Nat.le_refl _), List.take_of_length_le (by rw [hs _ List.mem_cons_self]; exact Nat.le_refl _)]
 | a :: l, hs, i + 1, r, h => by
  have h1 := hs _ List.mem_cons_self
  have e : (a ++ l.flatten).drop ((i + 1) * sz) = l.flatten.drop (i * sz) := by
   rw [Nat.add_mul, Nat.one_mul, Nat.add_comm, ← h1, List.drop_append]
   simp
  rw [List.flatten_cons, e]
  exact nFlatAt (fun x hx => hs x (List.mem_cons_of_mem _ hx)) (by simpa using h)
theorem nLen {e : TypeId} {sz L cap : Nat} {a : Option Addr} {rows : List (List D)} (h : RepC w B E (.l e sz rows) (.slice a L cap)) : L = rows.length ∧ L ≤ maxLen := by
 cases h with
 | l ho _ _ =>
  rcases ho.2 with ⟨h0, h1⟩ | ⟨g, cap, cur, h0, _, _, h2, h3, _⟩
  ·cases h0; exact ⟨h1.symm, Nat.zero_le _⟩
  ·cases h0; exact ⟨rfl, by first | exact h3 | (have := h3; omega) | (unfold maxLen at *; omega)⟩
theorem nRowAt {e : TypeId} {sz L cap : Nat} {a : Option Addr} {rows : List (List D)} (h : RepC w B E (.l e sz rows) (.slice a L cap)) (hs : ∀ r ∈ rows, r.length = sz) (i : Nat) {r : List D} (hi : rows[i]? = some r) :
  ∃ g vs, a = some ⟨g, 0, none⟩ ∧ RepRow w B E r vs ∧ ∀ k u, vs[k]? = some u → w.cell? ⟨g, i * sz + k, none⟩ = some u := by
 cases h with
 | @l _ _ _ _ xs ho _ hr =>
  have hl : i < rows.length := (List.getElem?_eq_some_iff.1 hi).1
  obtain ⟨g, ha, hn⟩ : ∃ g, a = some ⟨g, 0, none⟩ ∧ L = rows.length := by
   rcases ho.2 with ⟨_, h1⟩ | ⟨g, cap, cur, h1, _⟩
   ·omega
   ·cases h1; exact ⟨g, rfl, rfl⟩
  subst ha hn
  refine ⟨g, (xs.drop (i * sz)).take sz, rfl, ?_, ?_⟩
  ·have h1 := nRow.take sz (nRow.drop (i * sz) hr)
   rw [nFlatAt hs hi] at h1
   exact h1
  ·intro k u hk
   have hk1 : k < sz := by
    rcases Nat.lt_or_ge k sz with h1 | h1
    ·exact h1
    ·rw [List.getElem?_take, if_neg (by omega)] at hk; cases hk
   rw [List.getElem?_take, if_pos hk1, List.getElem?_drop] at hk
   have hx : i * sz + k < xs.length := (List.getElem?_eq_some_iff.1 hk).1
   rw [← hk]
   exact ho.cellAt _ (by rw [← ho.1]; exact hx)
theorem nMap {α : Type} (G : α → List D) {sz : Nat} (hG : ∀ x, (G x).length = sz) (l : List α) : ∀ r ∈ l.map G, r.length = sz := fun r hr => by
 obtain ⟨x, _, rfl⟩ := List.mem_map.1 hr
 exact hG x
theorem nAt {α β : Type} (G : α → β) {l : List α} {t : Nat} {k : α} (h : l[t]? = some k) : (l.map G)[t]? = some (G k) := by rw [List.getElem?_map, h]; rfl
theorem varAt {L cap t : Nat} {a : Option Addr} {vs : List Gram.Var} {x : Gram.Var} (h : RepC w B E (.l 60 5 (vs.map varD)) (.slice a L cap)) (hx : vs[t]? = some x) :
  ∃ g p q r, a = some ⟨g, 0, none⟩ ∧ w.cell? ⟨g, t * 5, none⟩ = some (.string ⟨x.name.toArray⟩) ∧ w.cell? ⟨g, t * 5 + 1, none⟩ = some (.int .i64 x.tk) ∧ w.cell? ⟨g, t * 5 + 2, none⟩ = some (.int .i64 x.tl) ∧ w.cell? ⟨g, t * 5 + 3, none⟩ = some (.slice p q r) ∧ w.cell? ⟨g, t * 5 + 4, none⟩ = some (.int .i64 x.at_) ∧ RepC w B E (.l 92 2 (x.clock.map edgeD)) (.slice p q r) := by
 obtain ⟨g, us, ha, hr, hq⟩ := nRowAt h (nMap varD (fun _ => rfl) vs) t (nAt varD hx)
 obtain ⟨nm, tk, tl, cl, at_⟩ := x
 obtain ⟨r1, rfl, h_1⟩ := RepRow.cInv hr
 obtain ⟨r2, rfl, h_2⟩ := h_1.cInv
 obtain ⟨r3, rfl, h_3⟩ := h_2.cInv
 obtain ⟨p, q, r, r4, rfl, hc, h_4⟩ := h_3.lInv
 obtain ⟨r5, rfl, h_5⟩ := h_4.cInv
 exact ⟨g, p, q, r, ha, by have := hq 0 _ rfl; rwa [Nat.add_zero] at this, hq 1 _ rfl, hq 2 _ rfl, hq 3 _ rfl, hq 4 _ rfl, hc⟩
end
theorem drop_at {α : Type} {l : List α} {t : Nat} {x : α} (h : l[t]? = some x) : l.drop t = x :: l.drop (t + 1) := by
 obtain ⟨h1, h2⟩ := List.getElem?_eq_some_iff.1 h
 rw [List.drop_eq_getElem_cons h1, h2]
theorem edgeAt {w : World} {B : Nat} {E : List Nat} {L cap t : Nat} {a : Option Addr} {es : List Gram.Edge} {x : Gram.Edge} (h : RepC w B E (.l 92 2 (es.map edgeD)) (.slice a L cap)) (hx : es[t]? = some x) :
  ∃ g, a = some ⟨g, 0, none⟩ ∧ w.cell? ⟨g, t * 2, none⟩ = some (.string ⟨x.name.toArray⟩) ∧ w.cell? ⟨g, t * 2 + 1, none⟩ = some (.bool x.on) := by
 obtain ⟨g, us, ha, hr, hq⟩ := nRowAt h (nMap edgeD (fun _ => rfl) es) t (nAt edgeD hx)
 obtain rfl := edgeInv hr
 exact ⟨g, ha, by have := hq 0 _ rfl; rwa [Nat.add_zero] at this, hq 1 _ rfl⟩
theorem expAt {w : World} {B : Nat} {E : List Nat} {L cap t : Nat} {a : Option Addr} {es : List Gram.Exp} {x : Gram.Exp} (h : KidsX w B E es (.slice a L cap)) (hx : es[t]? = some x) :
  ∃ g p q r, a = some ⟨g, 0, none⟩ ∧ KidsX w B E x.kids (.slice p q r) ∧ ∀ k u, (expCells x (.slice p q r))[k]? = some u → w.cell? ⟨g, t * 9 + k, none⟩ = some u := by
 unfold KidsX at h
 rw [expsD_map] at h
 obtain ⟨g, us, ha, hr, hq⟩ := nRowAt h (nMap expD (fun x => by cases x; rfl) es) t (nAt expD hx)
 obtain ⟨p, q, r, rfl, hk⟩ := expInv hr
 exact ⟨g, p, q, r, ha, hk, hq⟩
theorem kidsLen {w : World} {B : Nat} {E : List Nat} {L cap : Nat} {a : Option Addr} {es : List Gram.Exp} (h : KidsX w B E es (.slice a L cap)) : L = es.length ∧ L ≤ maxLen := by
 unfold KidsX at h
 have := nLen h
 rwa [expsD_map, List.length_map] at this
theorem itemAt {w : World} {B : Nat} {E : List Nat} {L cap t : Nat} {a : Option Addr} {its : List Gram.Item} {ns : List (List UInt8)} {e : Gram.Exp} {ss : List Gram.State} {at_ : Int} (h : RepC w B E (.l 88 12 (itemsD its)) (.slice a L cap)) (hx : its[t]? = some (.mk ns e ss at_)) :
  ∃ g na nn nc ka kn kc qa qn qc, a = some ⟨g, 0, none⟩ ∧ RepC w B E (.l 9 1 (ns.map nameD)) (.slice na nn nc) ∧ KidsX w B E e.kids (.slice ka kn kc) ∧ RepC w B E (.l 95 6 (statesD ss)) (.slice qa qn qc) ∧ ∀ k u, (.slice na nn nc :: (expCells e (.slice ka kn kc) ++ [.slice qa qn qc, .int .i64 at_]))[k]? = some u → w.cell? ⟨g, t * 12 + k, none⟩ = some u := by
 rw [itemsD_map] at h
 obtain ⟨g, us, ha, hr, hq⟩ := nRowAt h (nMap itemD (fun x => by obtain ⟨_, e, _, _⟩ := x; cases e; rfl) its) t (nAt itemD hx)
 simp only [itemD] at hr
 obtain ⟨na, nn, nc, r1, rfl, k1, h_1⟩ := hr.lInv
 obtain ⟨u1, u2, rfl, h1, h2⟩ := RepRow.appInv h_1
 obtain ⟨p, q, r, rfl, hk⟩ := expInv h1
 obtain ⟨qa, qn, qc, r2, rfl, k2, h_2⟩ := h2.lInv
 obtain ⟨r3, rfl, h_3⟩ := h_2.cInv
 obtain rfl := h_3.nInv
 exact ⟨g, na, nn, nc, p, q, r, qa, qn, qc, ha, k1, hk, k2, hq⟩
theorem nameAt {w : World} {B : Nat} {E : List Nat} {L cap t : Nat} {a : Option Addr} {ns : List (List UInt8)} {s : List UInt8} (h : RepC w B E (.l 9 1 (ns.map nameD)) (.slice a L cap)) (hx : ns[t]? = some s) : ∃ g, a = some ⟨g, 0, none⟩ ∧ w.cell? ⟨g, t, none⟩ = some (.string ⟨s.toArray⟩) := by
 obtain ⟨g, us, ha, hr, hq⟩ := nRowAt h (nMap nameD (fun _ => rfl) ns) t (nAt nameD hx)
 unfold nameD at hr
 obtain ⟨r1, rfl, h_1⟩ := RepRow.cInv hr
 have := hq 0 _ rfl
 rw [Nat.mul_one, Nat.add_zero] at this
 exact ⟨g, ha, this⟩
theorem nodeAt {w : World} {B : Nat} {E : List Nat} {L cap t : Nat} {a : Option Addr} {l : List Gram.Node} {n : Gram.Node} (h : RepC w B E (.l 44 6 (l.map nodeD)) (.slice a L cap)) (hx : l[t]? = some n) :
  ∃ g ua un uc ta tn tc la ln lc ia jn ic, a = some ⟨g, 0, none⟩ ∧ (w.cell? ⟨g, t * 6, none⟩ = some (.string ⟨n.name.toArray⟩) ∧ w.cell? ⟨g, t * 6 + 1, none⟩ = some (.slice ua un uc) ∧ w.cell? ⟨g, t * 6 + 2, none⟩ = some (.slice ta tn tc) ∧ w.cell? ⟨g, t * 6 + 3, none⟩ = some (.slice la ln lc) ∧ w.cell? ⟨g, t * 6 + 4, none⟩ = some (.slice ia jn ic) ∧ w.cell? ⟨g, t * 6 + 5, none⟩ = some (.int .i64 n.at_)) ∧
   RepC w B E (.l 60 5 (n.ins.map varD)) (.slice ua un uc) ∧ RepC w B E (.l 60 5 (n.outs.map varD)) (.slice ta tn tc) ∧ RepC w B E (.l 60 5 (n.locals.map varD)) (.slice la ln lc) ∧ RepC w B E (.l 88 12 (itemsD n.items)) (.slice ia jn ic) := by
 obtain ⟨g, vs, ha, hr, hq⟩ := nRowAt h (nMap nodeD (fun x => by cases x; rfl) l) t (nAt nodeD hx)
 simp only [nodeD] at hr
 obtain ⟨r1, rfl, h_1⟩ := RepRow.cInv hr
 obtain ⟨ua, un, uc, r2, rfl, k1, h_2⟩ := h_1.lInv
 obtain ⟨ta, tn, tc, r3, rfl, k2, h_3⟩ := h_2.lInv
 obtain ⟨la, ln, lc, r4, rfl, k3, h_4⟩ := h_3.lInv
 obtain ⟨ia, jn, ic, r5, rfl, k4, h_5⟩ := h_4.lInv
 obtain ⟨r6, rfl, h_6⟩ := h_5.cInv
 exact ⟨g, ua, un, uc, ta, tn, tc, la, ln, lc, ia, jn, ic, ha, ⟨by have := hq 0 _ rfl; rwa [Nat.add_zero] at this, hq 1 _ rfl, hq 2 _ rfl, hq 3 _ rfl, hq 4 _ rfl, hq 5 _ rfl⟩, k1, k2, k3, k4⟩
theorem nodesLen {w : World} {B : Nat} {E : List Nat} {L cap : Nat} {a : Option Addr} {l : List Gram.Node} (h : RepC w B E (.l 44 6 (l.map nodeD)) (.slice a L cap)) : L = l.length ∧ L ≤ maxLen := by
 have := nLen h
 rwa [List.length_map] at this
end Go.Proofs.YtbbamgjdnibldaaGreat
namespace Go.Proofs.YtbbamgjdnibldaaGreat.Nam
open Go.RowKit
open Gram (B Exp Var Trans)
abbrev F := Int × Int
def short (s : B) : Bool := decide (s.length ≤ 100000)
def uses (f : Int) : Bool := f == 2 || f == 9 || f == 10
def calls (f : Int) : Bool := f == 13 || f == 14 || f == 18 || f == 19
def needsKid (f : Int) : Bool := f == 14 || f == 15 || f == 18
end Go.Proofs.YtbbamgjdnibldaaGreat.Nam
namespace Go.Proofs.YtbbamgjdnibldaaGreat.Ty
open Go.RowKit
open Gram (B Exp Var)
open Nam (F)
abbrev T := Int × Int
structure St where
 nodes : List (B × Gram.Node)
 vars : List (B × T)
def vT (v : Var) : T := (v.tk, v.tl)
def look {α : Type} : List (B × α) → B → Option α
 | [], _ => none
 | x :: r, s => if x.1 == s then some x.2 else look r s
def varOf (st : St) (s : B) : T := (look st.vars s).getD (0, 0)
def enter (st : St) (l : List Var) : St := { st with vars := l.foldl (fun a v => (v.name, vT v) :: a) st.vars }
def leave (st : St) (l : List Var) : St := { st with vars := l.foldl (fun a v => a.filter fun x => x.1 != v.name) st.vars }
def tB : T := (1, 0)
def scal (t : T) : Bool := t.2 == 0
def same : List T → Bool
 | [] => false
 | x :: r => r.all (· == x)
def must : List (Int × Bool) → Int
 | [] => 0
 | x :: r => if x.2 then must r else x.1
def k0 (k : List T) : T := k.headD (0, 0)
def k1 (k : List T) : T := k.tail.headD (0, 0)
def least (f : Int) : Nat := if f = 3 ∨ f = 6 ∨ f = 9 ∨ f = 11 ∨ f = 14 ∨ f = 15 ∨ f = 16 ∨ f = 17 ∨ f = 18 then 1 else if f = 4 ∨ f = 7 ∨ f = 8 ∨ f = 10 ∨ f = 19 then 2 else if f = 5 then 3 else 0
def most (f : Int) (n : Nat) : Nat := if f = 13 ∨ f = 14 ∨ f = 15 ∨ f = 18 then n else least f
def part (st : St) (f sub : Int) (nm : B) (t : T) (n m : Int) (k : List T) : List T × Int :=
 if f = 1 then ([t], 0)
 else if f = 2 then (match look st.vars nm with | some t => ([t], 0) | none => ([(0, 0)], 21))
 else if f = 3 then ([k0 k], must [(22, k.all scal), (22, Bv.unB sub (k0 k).1 0)])
 else if f = 4 then ([(Bv.binK sub (k0 k).1 0 0, 0)], must [(22, k.all scal), (22, same k), (22, Bv.binB sub (k0 k).1 0 0)])
 else if f = 5 then ([k1 k], must [(22, k0 k == tB), (22, same k.tail)])
 else if f = 6 ∨ f = 7 ∨ f = 8 then ([k0 k], must [(22, same k)])
 else if f = 9 ∨ f = 10 then ([k0 k], must [(22, varOf st nm == tB), (22, same k)])
 else if f = 11 then ([t], must [(22, k.all scal)])
 else if f = 12 then ([tB], must [(23, decide (1 ≤ n ∧ n ≤ 64)), (23, decide (m < n))])
 else if f = 15 then ([((k0 k).1, (k.length : Int))], must [(22, k.all scal), (22, same k), (23, decide (1 ≤ k.length ∧ k.length ≤ 16))])
 else if f = 16 then ([((k0 k).1, 0)], must [(22, k.all fun t => !scal t), (23, decide (0 ≤ n ∧ n ≤ (k0 k).2 - 1))])
 else if f = 17 then ([((k0 k).1, n)], must [(22, k.all scal), (23, decide (1 ≤ n ∧ n ≤ 16))])
 else if f = 13 ∨ f = 14 ∨ f = 18 ∨ f = 19 then
  (match look st.nodes nm with
   | none => ([], 21)
   | some d =>
    let ins := d.ins.map vT
    let outs := d.outs.map vT
    if f = 13 then (outs, must [(23, k.length == ins.length), (22, k == ins)])
    else if f = 14 then (outs, must [(23, k.length == ins.length + 1), (22, k == ins ++ [tB])])
    else if f = 18 then (outs.map fun t => (t.1, (k0 k).2), must [(23, ins.length == k.length && outs.length == 1), (23, ins.all scal), (23, outs.all scal), (22, k.all fun t => !scal t), (22, k == ins.map fun t => (t.1, (k0 k).2))])
    else (outs, must [(23, ins.length == 2 && outs.length == 1), (23, ins.all scal), (23, outs.all scal), (22, k0 ins == k0 outs && k0 ins == k0 k), (22, !scal (k1 k) && (k1 ins).1 == (k1 k).1)]))
 else ([], 22)
mutual
def of (st : St) : Exp → List T × F
 | .mk f s nm tk tl n m ks a =>
  if ks.length < least f then ([], (a, 23))
  else
   let k := ofL st (most f ks.length) ks
   if k.2.2 ≠ 0 then ([], k.2)
   else
    let r := part st f s nm (tk, tl) n m k.1
    if r.2 ≠ 0 then ([], (a, r.2)) else (r.1, (0, 0))
def ofL (st : St) : Nat → List Exp → List T × F
 | 0, _ => ([], (0, 0))
 | _ + 1, [] => ([], (0, 0))
 | n + 1, x :: r =>
  let y := of st x
  if y.2.2 ≠ 0 then ([], y.2)
  else if y.1.length ≠ 1 then ([], (x.at_, 23))
  else
   let z := ofL st n r
   if z.2.2 ≠ 0 then ([], z.2) else (k0 y.1 :: z.1, (0, 0))
end
def sizes : List Var → F
 | [] => (0, 0)
 | v :: r => if v.tl > 16 then (v.at_, 23) else sizes r
def clocks (st : St) : List Var → F
 | [] => (0, 0)
 | v :: r => if v.clock.all fun g => varOf st g.name == tB then clocks st r else (v.at_, 22)
def item (st : St) : Gram.Item → F
 | .mk ns e _ a =>
  let x := of st e
  if x.2.2 ≠ 0 then x.2
  else if x.1.length ≠ ns.length then (a, 23)
  else if x.1 == ns.map (varOf st) then (0, 0) else (a, 22)
def items (st : St) : List Gram.Item → F
 | [] => (0, 0)
 | i :: r => let x := item st i; if x.2 ≠ 0 then x else items st r
def node (st : St) (n : Gram.Node) : F × St :=
 let s := enter (enter (enter st n.ins) n.outs) n.locals
 let x := sizes (n.ins ++ n.outs ++ n.locals)
 let y := if x.2 ≠ 0 then x else let c := clocks s n.locals; if c.2 ≠ 0 then c else items s n.items
 (y, leave (leave (leave s n.ins) n.outs) n.locals)
def nodes (st : St) : List Gram.Node → F
 | [] => (0, 0)
 | n :: r => let x := node st n; if x.1.2 ≠ 0 then x.1 else nodes x.2 r
def check (l : List Gram.Node) : F := nodes ⟨l.foldl (fun a n => (n.name, n) :: a) [], []⟩ l
mutual
def nm (A vars : List B) : Exp → F
 | .mk f _ n _ _ _ _ ks a =>
  if Nam.uses f && !vars.contains n then (a, 21)
  else if Nam.calls f && !A.contains n then (a, 21)
  else if Nam.needsKid f && ks.isEmpty then (a, 23)
  else nmL A vars ks
def nmL (A vars : List B) : List Exp → F
 | [] => (0, 0)
 | x :: r => let y := nm A vars x; if y.2 ≠ 0 then y else nmL A vars r
end
def eqn (a : Int) (may : List B) : List B → List B → F × List B
 | [], done => ((0, 0), done)
 | s :: r, done => if !may.contains s then ((a, 21), done ++ [s]) else if done.contains s then ((a, 20), done ++ [s]) else eqn a may r (done ++ [s])
def listN (A vars may : List B) : List Gram.Item → List B → F × List B
 | [], done => ((0, 0), done)
 | .mk ns e _ a :: r, done =>
  let x := eqn a may ns done
  if x.1.2 ≠ 0 then x
  else
   let y := nm A vars e
   if y.2 ≠ 0 then (y, x.2) else listN A vars may r x.2
def twice : List Var → List B → F
 | [], _ => (0, 0)
 | v :: r, seen => if seen.contains v.name then (v.at_, 20) else twice r (seen ++ [v.name])
def missing (done : List B) : List Var → F
 | [] => (0, 0)
 | v :: r => if done.contains v.name then missing done r else (v.at_, 24)
def clockN (vars : List B) : List Var → F
 | [] => (0, 0)
 | v :: r => if v.clock.all fun g => vars.contains g.name && g.name != v.name then clockN vars r else (v.at_, 21)
def nodesN : List Gram.Node → List B → F
 | [], _ => (0, 0)
 | n :: r, A =>
  if A.contains n.name then (n.at_, 20)
  else
   let all := n.ins ++ n.outs ++ n.locals
   let t := twice all []
   if t.2 ≠ 0 then t
   else
    let vars := all.map Var.name
    let d := listN A vars ((n.outs ++ n.locals).map Var.name) n.items []
    if d.1.2 ≠ 0 then d.1
    else
     let m := missing d.2 (n.outs ++ n.locals)
     if m.2 ≠ 0 then m
     else
      let c := clockN vars n.locals
      if c.2 ≠ 0 then c else nodesN r (A ++ [n.name])
def checkN (l : List Gram.Node) : F := nodesN l []
end Go.Proofs.YtbbamgjdnibldaaGreat.Ty
namespace Go.Proofs.YtbbamgjdnibldaaGreat
open Go.RowKit Go.Maps Go.WideMaps
def StrL (w : World) (a : Option Addr) (xs : List (List UInt8)) : Prop := ∀ t s, xs[t]? = some s → ∃ g off, a = some ⟨g, off, none⟩ ∧ w.cell? ⟨g, off + t, none⟩ = some (.string ⟨s.toArray⟩)
theorem StrL.kept {w w' : World} {a : Option Addr} {xs : List (List UInt8)} (h : StrL w a xs) (hg : w.grownBy w' none) : StrL w' a xs := fun t s hs => by
 obtain ⟨g, off, h1, h2⟩ := h t s hs
 exact ⟨g, off, h1, hg.cell h2 (by simp)⟩
theorem str_beq (x s : List UInt8) : ((⟨x.toArray⟩ : ByteArray).toList == (⟨s.toArray⟩ : ByteArray).toList) = (x == s) := by
 rw [ByteArray.toList_eq, ByteArray.toList_eq]
theorem has_any (w : World) (a : Option Addr) (n c : Nat) (xs : List (List UInt8)) (s : List UInt8) (hn : n = xs.length) (hm : n ≤ 1000000) (h : StrL w a xs) :
  Calls Tryz.prog 21 #[.slice a n c, .string ⟨s.toArray⟩] w fun e w' => e = .returned (.bool (xs.contains s)) ∧ w' = w := by
 obtain ⟨R, hR⟩ : ∃ R, R = xs.contains s := ⟨_, rfl⟩
 rw [← hR]
 have HR := ld hR
 have HN := ld hn
 have HH := ld h
 clear hR hn h
 go_enter Tryz.func21, Tryz.ntmps21
 go_wp2
 go_loopw [5] (fun iv wr => ∃ t : Nat, t ≤ n ∧ iv = .int .i64 (t : Int) ∧ Hid (wr = w ∧ (xs.take t).contains s = false)) (fun i _ => n - (intOf i).toNat)
 case atStart => exact ⟨0, Nat.zero_le _, rfl, ld ⟨rfl, by simp⟩⟩
 case round =>
  obtain ⟨t, ht, rfl, HQ⟩ := hrel
  obtain ⟨hwr, hq⟩ := HQ.out
  subst wr
  clear HQ
  by_cases hlt : t < n
  ·obtain ⟨x, hx⟩ : ∃ x, xs[t]? = some x := ⟨_, List.getElem?_eq_getElem (by rw [← HN.out]; exact hlt)⟩
   obtain ⟨g, off, rfl, hc⟩ := HH.out t x hx
   have hb := str_beq x s
   have hnx : (xs.take (t + 1)).contains s = (x == s) := by
    rw [List.take_add_one, hx]
    have e2 : (xs.take t).contains s = false := hq
    simp only [Option.toList, List.contains_append, e2, Bool.false_or, List.contains_cons, List.contains_nil, Bool.or_false]
    exact Bool.beq_comm
   have HX := ld hx
   have HNX := ld hnx
   clear hx hnx
   cases hxs : (x == s) with
   | true =>
    rw [hxs] at hb
    go_wp2
    go_ret
    refine ⟨?_, rfl⟩
    have : R = true := by
     rw [HR.out]
     have e1 : x = s := eq_of_beq hxs
     subst e1
     simpa using List.mem_of_getElem? HX.out
    rw [this]; rfl
   | false =>
    rw [hxs] at hb
    have h9 := HNX.out
    rw [hxs] at h9
    have H9 := ld h9
    clear h9
    go_wp2
    exact ⟨⟨t + 1, by omega, by go_num, ld ⟨by trivial, H9.out⟩⟩, by simp [intOf]; omega⟩
  ·have e : t = n := by omega
   subst e
   rw [List.take_of_length_le (by rw [← HN.out]; exact Nat.le_refl _), ← HR.out] at hq
   go_wp2
   go_ret
   exact ⟨by rw [hq]; rfl, rfl⟩
def Cb (w : World) (b : Nat) (a : Option Addr) (L c : Nat) (x : Nam.F) : Prop := w.heap[b]? = some (.cells #[.slice a L c, .int .i64 x.2, .int .i64 x.1] 52 (0, 0))
theorem cnode_any (w0 w : World) (l : List Gram.Node) (a : Option Addr) (L c : Nat) (hv : RepC w0 0 [] (.l 44 6 (l.map nodeD)) (.slice a L c)) (hg : w0.grownBy w none) (s : List UInt8) (k : Nat) (hk : k ≤ 1000000) :
  Calls Tryz.prog 19 #[.agg #[.slice a L c], .string ⟨s.toArray⟩, .int .i64 (k : Int)] w fun e w' => ∃ r : Int, e = .returned (.int .i64 r) ∧ (((l.take k).map Gram.Node.name).contains s = decide (0 ≤ r)) ∧ w.grownBy w' none := by
 obtain ⟨hL, hLm⟩ := nodesLen hv
 unfold maxLen at hLm
 have hga := ga w (.cells #[.slice a L c] 27 (0, 0)) none
 have HL := ld hL
 have HV := ld hv
 have HG := ld hg
 have HGA := ld hga
 clear hL hv hg hga
 go_enter Tryz.func19, Tryz.ntmps19
 go_wp2
 go_loopw [7] (fun iv wr => ∃ t : Nat, t ≤ k ∧ t ≤ L ∧ iv = .int .i64 (t : Int) ∧ Hid (wr = w.alloc (.cells #[.slice a L c] 27 (0, 0)) ∧ ((l.take t).map Gram.Node.name).contains s = false)) (fun i _ => L - (intOf i).toNat)
 case atStart => exact ⟨0, Nat.zero_le _, Nat.zero_le _, rfl, ld ⟨rfl, by simp⟩⟩
 case round =>
  obtain ⟨t, htk, htL, rfl, HQ⟩ := hrel
  obtain ⟨hwr, hq⟩ := HQ.out
  have HW := ld hwr
  have HQ2 := ld hq
  have p0 : wr.cell? ⟨w.heap.size, 0, none⟩ = some (.slice a L c) := by rw [hwr]; exact cell_of_row _ _ 0 _ _ _ (heap_alloc_new w _)
  clear HQ hwr hq
  by_cases hlt : t < k
  ·have d1 : decide ((t : Int) < (k : Int)) = true := by rw [decide_eq_true_iff]; omega
   by_cases hl2 : t < L
   ·have d2 : decide ((t : Int) < (L : Int)) = true := by rw [decide_eq_true_iff]; omega
    obtain ⟨n, hn⟩ : ∃ n, l[t]? = some n := ⟨_, List.getElem?_eq_getElem (by rw [← HL.out]; exact hl2)⟩
    obtain ⟨g, _, _, _, _, _, _, _, _, _, _, _, _, rfl, ⟨u0, _⟩, _⟩ := nodeAt HV.out hn
    have q0 : wr.cell? ⟨g, t * 6, none⟩ = some (.string ⟨n.name.toArray⟩) := by rw [HW.out]; exact HGA.out.cell (HG.out.cell u0 (by simp)) (by simp)
    have hb := str_beq n.name s
    have hnx : ((l.take (t + 1)).map Gram.Node.name).contains s = (n.name == s) := by
     have e1 := HQ2.out
     rw [List.take_add_one, hn]
     simp only [Option.toList, List.map_append, List.map_cons, List.map_nil, List.contains_append, e1, Bool.false_or, List.contains_cons, List.contains_nil, Bool.or_false]
     exact Bool.beq_comm
    have HN := ld (And.intro hn hnx)
    clear hn hnx u0
    cases hx : (n.name == s) with
    | true =>
     rw [hx] at hb
     generalize n.name = nn at *
     go_wp2
     go_ret
     refine ⟨_, rfl, ?_, by rw [HW.out]; exact HGA.out⟩
     have h1 := HN.out.2
     rw [hx] at h1
     have h2 : ((l.take k).map Gram.Node.name).contains s = true := by
      rw [List.contains_iff_mem] at h1 ⊢
      obtain ⟨y, hy, ey⟩ := List.mem_map.1 h1
      exact List.mem_map.2 ⟨y, List.take_subset_take_left l (by omega) hy, ey⟩
     rw [h2]
     simp
    | false =>
     rw [hx] at hb
     have h1 := HN.out.2
     rw [hx] at h1
     have H1 := ld h1
     clear h1
     generalize n.name = nn at *
     go_wp2
     exact ⟨⟨t + 1, by omega, by omega, by go_num, ld ⟨HW.out, H1.out⟩⟩, by simp [intOf]; omega⟩
   ·have d2 : decide ((t : Int) < (L : Int)) = false := by rw [decide_eq_false_iff_not]; omega
    have e : t = L := by omega
    go_wp2
    go_ret
    refine ⟨_, rfl, ?_, by rw [HW.out]; exact HGA.out⟩
    have h1 := HQ2.out
    rw [List.take_of_length_le (by rw [← HL.out]; omega)] at h1
    rw [List.take_of_length_le (by rw [← HL.out]; omega), h1]
    rfl
  ·have d1 : decide ((t : Int) < (k : Int)) = false := by rw [decide_eq_false_iff_not]; omega
   have e : t = k := by omega
   subst e
   go_wp2
   go_ret
   refine ⟨_, rfl, ?_, by rw [HW.out]; exact HGA.out⟩
   rw [HQ2.out]
   rfl
end Go.Proofs.YtbbamgjdnibldaaGreat
namespace Go.Proofs.YtbbamgjdnibldaaGreat.Wl
open Go.RowKit Go.Maps Go.WideMaps
section
variable {P : Program} {ops : Array Oper} {Q : Exit → Act → World → Prop} {md : Region.Mode}
theorem wpOp_now {i : Nat} {o : Oper} {K : Act → World → Prop} {a : Act} {w : World} (hi : ops[i]? = some o) (hw : Region.wanted o (yielded ops a.tmps) = true) (h : ∀ K' : Act → World → Prop, (∀ a w, K a w → K' a w) → o.wp P a w K' Q) : wpOp P ops Q i K a w := by
 unfold wpOp
 rw [hi]
 simp only
 rw [if_pos hw]
 exact .inl (h K (fun _ _ h => h))
theorem wpL_take2 {S : World → Prop} {Z : List Nat} {i d : Nat} {oi : Oper} {v : Value} {f : Nat} {l : Array Bool} {a : Act} {w : World} (hi : ops[i]? = some oi) (hdst : oi.dst = some d)
  (hs : Region.noSelect ops = true) (hf : Region.free md ops l i = true) (hr : (Region.ready md ops l).contains i = true)
  (hQ : ∀ c a w, Q (.panic c) (a.put (some d) v) w → Q (.panic c) a w) (hZ : (Z.all fun z => ((ops[z]?).map fun oz => oz.after.any fun e => Region.binds md e && e.on == i).getD false) = true) (hy : YieldsIf P ops S oi v a) (hS : S w)
  (h : wpL P md ops Q S Z f (l.setIfInBounds i true) (a.put (some d) v) w) : wpL P md ops Q S Z (f + 1) l a w :=
 wpL_take hi hs hf hr (by rw [hdst]; exact hQ) hZ hy hS (by rw [hdst]; exact h)
theorem t2 {S : World → Prop} {Z : List Nat} (i d : Nat) (v : Value) {oi : Oper} {f : Nat} {l : Array Bool} {a : Act} {w : World} (hy : ∀ w, S w → (execOp a.eval oi).run P w = .ok (.value v) w) (hS : S w)
  (h : wpL P md ops Q S Z f (l.setIfInBounds i true) (a.put (some d) v) w) (hi : ops[i]? = some oi := by exact rfl)
  (hc : (oi.dst == some d && Region.noSelect ops && Region.free md ops l i && (Region.ready md ops l).contains i && (Z.all fun z => ((ops[z]?).map fun oz => oz.after.any fun e => Region.binds md e && e.on == i).getD false) && Region.wanted oi (yielded ops a.tmps)) = true := by kernel_rfl)
  (hQ : ∀ c a w, Q (.panic c) (a.put (some d) v) w → Q (.panic c) a w := by exact fun _ _ _ h => h) : wpL P md ops Q S Z (f + 1) l a w := by
 simp only [Bool.and_eq_true] at hc
 obtain ⟨⟨⟨⟨⟨h1, h2⟩, h3⟩, h4⟩, h5⟩, h6⟩ := hc
 exact wpL_take2 hi (eq_of_beq h1) h2 h3 h4 hQ h5 (.inl ⟨h6, hy⟩) hS h
theorem t1 {S : World → Prop} {Z : List Nat} (i d : Nat) (v : Value) {oi : Oper} {f : Nat} {l : Array Bool} {a : Act} {w : World} (hS : S w)
 (h : wpL P md ops Q S Z f (l.setIfInBounds i true) (a.put (some d) v) w) (hi : ops[i]? = some oi := by exact rfl)
 (hc : (oi.dst == some d && Region.noSelect ops && Region.free md ops l i && (Region.ready md ops l).contains i && (Z.all fun z => ((ops[z]?).map fun oz => oz.after.any fun e => Region.binds md e && e.on == i).getD false) && Region.wanted oi (yielded ops a.tmps)) = true := by kernel_rfl)
 (hQ : ∀ c a w, Q (.panic c) (a.put (some d) v) w → Q (.panic c) a w := by exact fun _ _ _ h => h) (hy : ∀ w, S w → (execOp a.eval oi).run P w = .ok (.value v) w := by intro _ _; kernel_rfl) : wpL P md ops Q S Z (f + 1) l a w := t2 i d v hy hS h hi hc hQ
theorem t3 {S : World → Prop} {Z : List Nat} (i d : Nat) {oi : Oper} {f : Nat} {l : Array Bool} {a : Act} {w : World} (hS : S w)
  (h : wpL P md ops Q S Z f (l.setIfInBounds i true) (a.put (some d) undef) w) (hi : ops[i]? = some oi := by exact rfl)
  (hc : (oi.dst == some d && Region.noSelect ops && Region.free md ops l i && (Region.ready md ops l).contains i && (Z.all fun z => ((ops[z]?).map fun oz => oz.after.any fun e => Region.binds md e && e.on == i).getD false) && !Region.wanted oi (yielded ops a.tmps)) = true := by kernel_rfl)
  (hQ : ∀ c a w, Q (.panic c) (a.put (some d) undef) w → Q (.panic c) a w := by exact fun _ _ _ h => h) : wpL P md ops Q S Z (f + 1) l a w := by
 simp only [Bool.and_eq_true, Bool.not_eq_true'] at hc
 obtain ⟨⟨⟨⟨⟨h1, h2⟩, h3⟩, h4⟩, h5⟩, h6⟩ := hc
 exact wpL_take2 hi (eq_of_beq h1) h2 h3 h4 hQ h5 (.inr ⟨h6, rfl⟩) hS h
theorem sA {α : Type} (l : List α) (i : Nat) (v : α) : l.toArray.setIfInBounds i v = (l.set i v).toArray := List.setIfInBounds_toArray ..
theorem sB {α : Type} (x : α) (l : List α) (v : α) : (x :: l).set 0 v = v :: l := rfl
theorem sC {α : Type} (x : α) (l : List α) (i : Nat) (v : α) : (x :: l).set (i + 1) v = x :: l.set i v := rfl
theorem wpL_call {S : World → Prop} {Z : List Nat} {i d g : Nat} {args : Array Value} {oi : Oper} {f : Nat} {l : Array Bool} {a : Act} {w : World} {R : Value → World → Prop} (hr : Region.ready md ops l = [i]) (hi : ops[i]? = some oi) (hdst : oi.dst = some d)
  (hw : Region.wanted oi (yielded ops a.tmps) = true) (hrun : (execOp a.eval oi).run P w = .ok (.enter g args) w) (hc : Calls P g args w fun e w' => ∃ v, e = .returned v ∧ R v w') (hS : ∀ v w', R v w' → S w')
  (h : ∀ v w', R v w' → wpL P md ops Q S Z f (l.setIfInBounds i true) (a.put (some d) v) w') : wpL P md ops Q S Z (f + 1) l a w := by
 refine wpL_one hr (wpOp_now hi hw (fun K' hK => ?_))
 unfold Oper.wp
 rw [hrun, Oper.upon_enter]
 refine hc.mono ?_
 rintro e w' ⟨v, rfl, hR⟩
 refine hK _ _ ⟨fun _ => hS v w' hR, ?_⟩
 rw [hdst]
 exact h v w' hR
end
section
variable {P : Program} {ops : Array Oper} {Q : Exit → Act → World → Prop} {md : Region.Mode} {S : World → Prop} {Z : List Nat}
theorem wpL_both {i j : Nat} {f : Nat} {l : Array Bool} {a : Act} {w : World} (hr : Region.ready md ops l = [i, j])
  (h1 : wpOp P ops Q i (fun a' w' => (i ∉ Z → S w') ∧ wpL P md ops Q S Z f (l.setIfInBounds i true) a' w') a w) (h2 : wpOp P ops Q j (fun a' w' => (j ∉ Z → S w') ∧ wpL P md ops Q S Z f (l.setIfInBounds j true) a' w') a w) : wpL P md ops Q S Z (f + 1) l a w :=
 ⟨fun h0 => (by rw [hr] at h0; exact absurd h0 (by simp)), fun k hk => (by
  rw [hr] at hk
  rcases List.mem_cons.1 hk with rfl | hk
  ·exact h1
  ·obtain rfl := List.mem_singleton.1 hk; exact h2)⟩
theorem wpOp_call {i d g : Nat} {args : Array Value} {oi : Oper} {a : Act} {w : World} {R : Value → World → Prop} {K : Act → World → Prop} (hi : ops[i]? = some oi) (hdst : oi.dst = some d)
  (hw : Region.wanted oi (yielded ops a.tmps) = true) (hrun : (execOp a.eval oi).run P w = .ok (.enter g args) w) (hc : Calls P g args w fun e w' => ∃ v, e = .returned v ∧ R v w') (h : ∀ v w', R v w' → K (a.put (some d) v) w') : wpOp P ops Q i K a w := by
 refine wpOp_now hi hw (fun K' hK => ?_)
 unfold Oper.wp
 rw [hrun, Oper.upon_enter]
 refine hc.mono ?_
 rintro e w' ⟨v, rfl, hR⟩
 refine hK _ _ ?_
 rw [hdst]
 exact h v w' hR
theorem wpOp_val {i d : Nat} {oi : Oper} {v : Value} {a : Act} {w w' : World} {K : Act → World → Prop} (hi : ops[i]? = some oi) (hdst : oi.dst = some d)
  (hw : Region.wanted oi (yielded ops a.tmps) = true) (hrun : (execOp a.eval oi).run P w = .ok (.value v) w') (h : K (a.put (some d) v) w') : wpOp P ops Q i K a w := by
 refine wpOp_now hi hw (fun K' hK => ?_)
 unfold Oper.wp
 rw [hrun, Oper.upon_value]
 refine hK _ _ ?_
 rw [hdst]
 exact h
theorem wpL_val {i d : Nat} {oi : Oper} {v : Value} {f : Nat} {l : Array Bool} {a : Act} {w w' : World} (hr : Region.ready md ops l = [i]) (hi : ops[i]? = some oi) (hdst : oi.dst = some d)
  (hw : Region.wanted oi (yielded ops a.tmps) = true) (hrun : (execOp a.eval oi).run P w = .ok (.value v) w') (hS : S w') (h : wpL P md ops Q S Z f (l.setIfInBounds i true) (a.put (some d) v) w') : wpL P md ops Q S Z (f + 1) l a w :=
 wpL_one hr (wpOp_val hi hdst hw hrun ⟨fun _ => hS, h⟩)
end
end Go.Proofs.YtbbamgjdnibldaaGreat.Wl
namespace Go.Proofs.YtbbamgjdnibldaaGreat.Wl
open Go.RowKit Go.Maps Go.WideMaps
section
variable {P : Program} {ops : Array Oper} {Q : Exit → Act → World → Prop} {md : Region.Mode} {Z : List Nat} {W : World}
theorem cg {S : World → Prop} {R : Value → World → Prop} (i d g : Nat) (args : Array Value) {oi : Oper} {f : Nat} {l : Array Bool} {a : Act} {w : World} (hS : S w) (hc : Calls P g args w fun e w' => ∃ v, e = .returned v ∧ R v w' ∧ w.grownBy w' none)
  (h : ∀ v w', R v w' → w.grownBy w' none → S w' → wpL P md ops Q S Z f (l.setIfInBounds i true) (a.put (some d) v) w') (hi : ops[i]? = some oi := by exact rfl)
  (hx : (Region.ready md ops l == [i] && oi.dst == some d && Region.wanted oi (yielded ops a.tmps)) = true := by kernel_rfl) (hrun : (execOp a.eval oi).run P w = .ok (.enter g args) w := by kernel_rfl) (hSk : ∀ V V', S V → V.grownBy V' none → S V' := by exact fun _ _ h g => h.trans g) : wpL P md ops Q S Z (f + 1) l a w := by
 simp only [Bool.and_eq_true] at hx
 obtain ⟨⟨h1, h2⟩, h3⟩ := hx
 exact wpL_call (R := fun v w' => R v w' ∧ w.grownBy w' none) (eq_of_beq h1) hi (eq_of_beq h2) h3 hrun hc (fun v w' h => hSk _ _ hS h.2) (fun v w' h' => h v w' h'.1 h'.2 (hSk _ _ hS h'.2))
theorem cs {S : World → Prop} {R : Value → World → Prop} (i d g : Nat) (args : Array Value) {oi : Oper} {f : Nat} {l : Array Bool} {a : Act} {w : World} (hc : Calls P g args w fun e w' => ∃ v, e = .returned v ∧ R v w') (hS : ∀ v w', R v w' → S w')
  (h : ∀ v w', R v w' → wpL P md ops Q S Z f (l.setIfInBounds i true) (a.put (some d) v) w') (hi : ops[i]? = some oi := by exact rfl)
  (hx : (Region.ready md ops l == [i] && oi.dst == some d && Region.wanted oi (yielded ops a.tmps)) = true := by kernel_rfl) (hrun : (execOp a.eval oi).run P w = .ok (.enter g args) w := by kernel_rfl) : wpL P md ops Q S Z (f + 1) l a w := by
 simp only [Bool.and_eq_true] at hx
 obtain ⟨⟨h1, h2⟩, h3⟩ := hx
 exact wpL_call (eq_of_beq h1) hi (eq_of_beq h2) h3 hrun hc hS h
theorem vg {S : World → Prop} (i d : Nat) (v : Value) (w' : World) {oi : Oper} {f : Nat} {l : Array Bool} {a : Act} {w : World} (hS : S w) (hg : w.grownBy w' none) (h : S w' → wpL P md ops Q S Z f (l.setIfInBounds i true) (a.put (some d) v) w') (hi : ops[i]? = some oi := by exact rfl)
  (hx : (Region.ready md ops l == [i] && oi.dst == some d && Region.wanted oi (yielded ops a.tmps)) = true := by kernel_rfl) (hrun : (execOp a.eval oi).run P w = .ok (.value v) w' := by kernel_rfl) (hSk : ∀ V V', S V → V.grownBy V' none → S V' := by exact fun _ _ h g => h.trans g) : wpL P md ops Q S Z (f + 1) l a w := by
 simp only [Bool.and_eq_true] at hx
 obtain ⟨⟨h1, h2⟩, h3⟩ := hx
 exact wpL_val (eq_of_beq h1) hi (eq_of_beq h2) h3 hrun (hSk _ _ hS hg) (h (hSk _ _ hS hg))
def Do (P : Program) (oi : Oper) (a : Act) (w : World) (R : Value → World → Prop) : Prop :=
 (∃ g args, (execOp a.eval oi).run P w = .ok (.enter g args) w ∧ Calls P g args w fun e w' => ∃ v, e = .returned v ∧ R v w' ∧ w.grownBy w' none) ∨ ∃ v w', (execOp a.eval oi).run P w = .ok (.value v) w' ∧ R v w' ∧ w.grownBy w' none
theorem Do.wpOp {i d : Nat} {oi : Oper} {a : Act} {w : World} {R : Value → World → Prop} {K : Act → World → Prop} (hd : Do P oi a w R) (hi : ops[i]? = some oi) (hdst : oi.dst = some d) (hw : Region.wanted oi (yielded ops a.tmps) = true) (h : ∀ v w', R v w' → w.grownBy w' none → K (a.put (some d) v) w') : wpOp P ops Q i K a w := by
 rcases hd with ⟨g, args, hrun, hc⟩ | ⟨v, w', hrun, hR, hg⟩
 ·exact wpOp_call (R := fun v w' => R v w' ∧ w.grownBy w' none) hi hdst hw hrun hc (fun v w' h' => h v w' h'.1 h'.2)
 ·exact wpOp_val hi hdst hw hrun (h v w' hR hg)
end
end Go.Proofs.YtbbamgjdnibldaaGreat.Wl
namespace Go.Proofs.YtbbamgjdnibldaaGreat
open Go.RowKit Go.Maps Go.WideMaps
def tyv (t : Ty.T) : Value := .agg #[.int .i64 t.1, .int .i64 t.2]
def TyL (w : World) (a : Option Addr) (xs : List Ty.T) : Prop := ∀ t x, xs[t]? = some x → ∃ g off, a = some ⟨g, off, none⟩ ∧ w.cell? ⟨g, off + t * 2, none⟩ = some (.int .i64 x.1) ∧ w.cell? ⟨g, off + t * 2 + 1, none⟩ = some (.int .i64 x.2)
theorem TyL.kept {w w' : World} {a : Option Addr} {xs : List Ty.T} (h : TyL w a xs) (hg : w.grownBy w' none) : TyL w' a xs := fun t x hx => by
 obtain ⟨g, off, h1, h2, h3⟩ := h t x hx
 exact ⟨g, off, h1, hg.cell h2 (by simp), hg.cell h3 (by simp)⟩
def Dem (w : World) (v : Value) (b : Bool) : Prop := ∃ F caps, v = .func (.func F) #[] caps ∧ (∀ args w, (callFunc F args).run Tryz.prog w = .ok (.enter F args) w) ∧ ∀ w', w.grownBy w' none → Calls Tryz.prog F caps w' fun e w'' => e = .returned (.bool b) ∧ w'.grownBy w'' none
theorem Dem.kept {w w' : World} {v : Value} {b : Bool} (h : Dem w v b) (hg : w.grownBy w' none) : Dem w' v b := by
 obtain ⟨F, caps, h1, h2, h3⟩ := h
 exact ⟨F, caps, h1, h2, fun w'' hg2 => h3 w'' (hg.trans hg2)⟩
theorem tfound_any (a x : Int) (w : World) : Calls Tryz.prog 17 #[.agg #[.int .i64 a, .int .i64 x]] w fun e w' => e = .returned (.bool (x != 0)) ∧ w.grownBy w' none := by
 go_enter Tryz.func17, Tryz.ntmps17
 go_wp2
 go_ret
 exact ⟨rfl, ga w _ none⟩
theorem TyL.one (w : World) (g : Nat) (k l : Int) (h : w.heap[g]? = some (.cells #[.int .i64 k, .int .i64 l] 57 (0, 0))) : TyL w (some ⟨g, 0, none⟩) [(k, l)] := fun t x hx => by
 cases t with
 | zero => simp at hx; subst hx; exact ⟨g, 0, rfl, cell_of_row w g 0 _ _ _ h, cell_of_row w g 1 _ _ _ h⟩
 | succ t => simp at hx
theorem galloc2 (w : World) (o p : Obj) : w.grownBy ((w.alloc o).alloc p) none := (ga w o none).trans (ga _ p none)
theorem heap_alloc_2 (w : World) (o p : Obj) : ((w.alloc o).alloc p).heap[w.heap.size + 1]? = some p := by
 have := heap_alloc_new (w.alloc o) p
 rw [World.size_alloc] at this
 exact this
theorem tone_any (k l : Int) (w : World) : Calls Tryz.prog 69 #[.agg #[.int .i64 k, .int .i64 l]] w fun e w' => ∃ g, e = .returned (.slice (some ⟨g, 0, none⟩) 1 1) ∧ (TyL w' (some ⟨g, 0, none⟩) [(k, l)] ∧ ∃ cs, w'.heap[g]? = some (.cells cs 57 (0, 0))) ∧ w.grownBy w' none := by
 go_enter Tryz.func69, Tryz.ntmps69
 go_wp2
 go_ret
 exact ⟨w.heap.size + 1, rfl, ⟨TyL.one _ _ k l (heap_alloc_2 w _ _), _, heap_alloc_2 w _ _⟩, galloc2 w _ _⟩
theorem tscalar_any (k : Int) (w : World) : Calls Tryz.prog 79 #[.int .i64 k] w fun e w' => e = .returned (.agg #[.int .i64 k, .int .i64 0]) ∧ w.grownBy w' none := by
 go_enter Tryz.func79, Tryz.ntmps79
 go_wp2
 refine br (heap_alloc_new w _) Tryz.underlying57 ?_
 exact ⟨rfl, ga w _ none⟩
theorem tisScalar_any (k l : Int) (w : World) : Calls Tryz.prog 74 #[.agg #[.int .i64 k, .int .i64 l]] w fun e w' => e = .returned (.bool (l == 0)) ∧ w.grownBy w' none := by
 go_enter Tryz.func74, Tryz.ntmps74
 go_wp2
 go_ret
 exact ⟨rfl, ga w _ none⟩
theorem tisArray_any (k l : Int) (w : World) : Calls Tryz.prog 85 #[.agg #[.int .i64 k, .int .i64 l]] w fun e w' => e = .returned (.bool (l != 0)) ∧ w.grownBy w' none := by
 go_enter Tryz.func85, Tryz.ntmps85
 go_wp2
 go_ret
 exact ⟨rfl, ga w _ none⟩
theorem run_eqT (a : Act) (w : World) (oi : Oper) (x y : Operand) (k l k2 l2 : Int) (ho : oi.op = .binOp .eql 57 x y 57) (hx : a.eval x = .agg #[.int .i64 k, .int .i64 l]) (hy : a.eval y = .agg #[.int .i64 k2, .int .i64 l2]) : (execOp a.eval oi).run Tryz.prog w = .ok (.value (.bool ((k, l) == (k2, l2)))) w := by
 unfold execOp
 rw [ho]
 simp only [hx, hy]
 go_simp
 by_cases h1 : k = k2 <;> by_cases h2 : l = l2 <;> simp [h1, h2]
theorem tisBool_any (k l : Int) (w : World) : Calls Tryz.prog 59 #[.agg #[.int .i64 k, .int .i64 l]] w fun e w' => e = .returned (.bool ((k, l) == Ty.tB)) ∧ w.grownBy w' none := by
 have hga := ga w (.cells #[.int .i64 k, .int .i64 l] 57 (0, 0)) none
 have p0 := cell_of_row _ _ 0 _ _ _ (heap_alloc_new w (.cells #[.int .i64 k, .int .i64 l] 57 (0, 0)))
 have p1 := cell_of_row _ _ 1 _ _ _ (heap_alloc_new w (.cells #[.int .i64 k, .int .i64 l] 57 (0, 0)))
 go_enter Tryz.func59, Tryz.ntmps59
 go_wp2
 refine wp_region_L (S := fun V => (w.alloc (.cells #[.int .i64 k, .int .i64 l] 57)).grownBy V none) (Z := []) (by kernel_rfl) ?_
 have hS := gdrew (World.grownBy.refl (w.alloc (.cells #[.int .i64 k, .int .i64 l] 57)) none)
 refine Wl.t2 0 3 (.agg #[.int .i64 k, .int .i64 l]) (fun w' hw' => ?_) hS ?_
 ·have hc0 := hw'.cell p0 (by simp); have hc1 := hw'.cell p1 (by simp); clear hw'; go_simp
 (try simp only [Act.put, Wl.sA, Wl.sB, Wl.sC])
 refine Wl.cg (R := fun v _ => v = .agg #[.int .i64 1, .int .i64 0]) 1 4 79 #[.int .i64 1] hS ((tscalar_any 1 _).mono (by rintro e w' ⟨rfl, hg⟩; exact ⟨_, rfl, rfl, hg⟩)) ?_
 rintro v w2 rfl - hS
 (try simp only [Act.put, Wl.sA, Wl.sB, Wl.sC])
 refine Wl.t2 2 5 (.bool ((k, l) == (1, 0))) (fun w' hw' => run_eqT _ _ _ _ _ _ _ _ _ rfl rfl rfl) hS ?_
 (try simp only [Act.put, Wl.sA, Wl.sB, Wl.sC])
 refine Wl.t1 3 2 (.bool ((k, l) == (1, 0))) hS ?_
 (try simp only [Act.put, Wl.sA, Wl.sB, Wl.sC])
 refine wpL_done (by kernel_rfl) ?_ _
 go_wp2
 go_ret
 exact ⟨rfl, hga.trans hS⟩
theorem tindex_any (w : World) (a : Option Addr) (n c : Nat) (xs : List Ty.T) (hn : n = xs.length) (hm : n ≤ 1000000) (h : TyL w a xs) (F : Nat) (caps : Array Value) (p : Ty.T → Bool) (hF : ∀ args w, (callFunc F args).run Tryz.prog w = .ok (.enter F args) w)
  (hp : ∀ k l V, w.grownBy V none → Calls Tryz.prog F (#[.agg #[.int .i64 k, .int .i64 l]] ++ caps) V fun e V' => e = .returned (.bool (p (k, l))) ∧ V.grownBy V' none) :
  Calls Tryz.prog 141 #[.slice a n c, .func (.func F) #[] caps] w fun e w' => ∃ r : Int, e = .returned (.int .i64 r) ∧ decide (0 ≤ r) = xs.any p ∧ w.grownBy w' none := by
 obtain ⟨R, hR⟩ : ∃ R, R = xs.any p := ⟨_, rfl⟩
 rw [← hR]
 have HR := ld hR
 have HN := ld hn
 have HH := ld h
 have HP := ld hp
 clear hR hn h hp
 go_enter Tryz.func141, Tryz.ntmps141
 go_wp2
 go_loopw [8] (fun iv wr => ∃ t : Nat, t ≤ n ∧ iv = .int .i64 (t : Int) ∧ Hid (w.grownBy wr none ∧ (xs.take t).any p = false)) (fun i _ => n - (intOf i).toNat)
 case atStart => exact ⟨0, Nat.zero_le _, rfl, ld ⟨World.grownBy.refl _ _, by simp⟩⟩
 case round =>
  obtain ⟨t, ht, rfl, HQ⟩ := hrel
  by_cases hlt : t < n
  ·obtain ⟨x, hx⟩ : ∃ x, xs[t]? = some x := ⟨_, List.getElem?_eq_getElem (by rw [← HN.out]; exact hlt)⟩
   obtain ⟨g, off, rfl, hc, hc2⟩ := HH.out t x hx
   have hnx : (xs.take (t + 1)).any p = p x := by
    rw [List.take_add_one, hx]
    have e2 := HQ.out.2
    simp [e2]
   have q0 := HQ.out.1.cell hc (by simp)
   have q1 := HQ.out.1.cell hc2 (by simp)
   have hcl := HP.out x.1 x.2 wr HQ.out.1
   have HX := ld hx
   have HNX := ld hnx
   clear hx hnx hc hc2
   cases hpx : p x with
   | true =>
    have hpx' : p (x.1, x.2) = true := hpx
    rw [hpx'] at hcl
    go_wp2
    refine hcl.mono ?_
    rintro e w2 ⟨rfl, hg2⟩
    go_wp2
    go_ret
    refine ⟨_, rfl, ?_, HQ.out.1.trans hg2⟩
    have : R = true := by
     rw [HR.out]
     exact List.any_eq_true.2 ⟨x, List.mem_of_getElem? HX.out, hpx⟩
    rw [this]
    simp
   | false =>
    have hpx' : p (x.1, x.2) = false := hpx
    rw [hpx'] at hcl
    have h9 := HNX.out
    rw [hpx] at h9
    have H9 := ld h9
    clear h9
    go_wp2
    refine hcl.mono ?_
    rintro e w2 ⟨rfl, hg2⟩
    go_wp2
    exact ⟨⟨t + 1, by omega, by go_num, ld ⟨HQ.out.1.trans hg2, H9.out⟩⟩, by simp [intOf]; omega⟩
  ·have e : t = n := by omega
   subst e
   go_wp2
   go_ret
   refine ⟨_, rfl, ?_, HQ.out.1⟩
   have hq := HQ.out.2
   rw [List.take_of_length_le (by rw [← HN.out]; exact Nat.le_refl _), ← HR.out] at hq
   rw [hq]
   rfl
theorem tcontains_any (w : World) (a : Option Addr) (n c : Nat) (xs : List Ty.T) (hn : n = xs.length) (hm : n ≤ 1000000) (h : TyL w a xs) (F : Nat) (caps : Array Value) (p : Ty.T → Bool) (hF : ∀ args w, (callFunc F args).run Tryz.prog w = .ok (.enter F args) w)
  (hp : ∀ k l V, w.grownBy V none → Calls Tryz.prog F (#[.agg #[.int .i64 k, .int .i64 l]] ++ caps) V fun e V' => e = .returned (.bool (p (k, l))) ∧ V.grownBy V' none) :
  Calls Tryz.prog 111 #[.slice a n c, .func (.func F) #[] caps] w fun e w' => e = .returned (.bool (xs.any p)) ∧ w.grownBy w' none := by
 have hi := tindex_any w a n c xs hn hm h F caps p hF hp
 generalize xs.any p = R at *
 clear hp hn hm h
 go_enter Tryz.func111, Tryz.ntmps111
 go_wp2_with (go_at_call 141; refine hi.mono ?_; rintro e w2 ⟨r, rfl, hr, hg2⟩; refine Hid.out ?_)
 refine ld ?_
 go_wp2
 go_ret
 refine ⟨?_, hg2⟩
 subst hr
 rfl
theorem tnot_any (w : World) (sb : Nat) (F : Nat) (p : Ty.T → Bool) (hF : ∀ args w, (callFunc F args).run Tryz.prog w = .ok (.enter F args) w) (hs : w.cell? ⟨sb, 0, none⟩ = some (.func (.func F) #[] #[])) (hp : ∀ k l V, w.grownBy V none → Calls Tryz.prog F #[.agg #[.int .i64 k, .int .i64 l]] V fun e V' => e = .returned (.bool (p (k, l))) ∧ V.grownBy V' none) (k l : Int) :
  Calls Tryz.prog 112 #[.agg #[.int .i64 k, .int .i64 l], .pointer (some ⟨sb, 0, none⟩)] w fun e w' => e = .returned (.bool (!p (k, l))) ∧ w.grownBy w' none := by
 have hga := ga w (.cells #[.int .i64 k, .int .i64 l] 57 (0, 0)) none
 have hc := hp k l _ hga
 have hs' := hga.cell hs (by simp)
 generalize p (k, l) = q at *
 clear hp
 have HG := ld hga
 clear hga
 go_enter Tryz.func112, Tryz.ntmps112
 go_wp2
 refine hc.mono ?_
 rintro e w2 ⟨rfl, hg2⟩
 go_wp2
 go_ret
 exact ⟨rfl, HG.out.trans hg2⟩
theorem tall1_any (w : World) (tb sb : Nat) (a : Option Addr) (n c : Nat) (xs : List Ty.T) (hn : n = xs.length) (hm : n ≤ 1000000) (h : TyL w a xs) (ht : w.cell? ⟨tb, 0, none⟩ = some (.slice a n c)) (F : Nat) (p : Ty.T → Bool) (hF : ∀ args w, (callFunc F args).run Tryz.prog w = .ok (.enter F args) w) (hs : w.cell? ⟨sb, 0, none⟩ = some (.func (.func F) #[] #[])) (hp : ∀ k l V, w.grownBy V none → Calls Tryz.prog F #[.agg #[.int .i64 k, .int .i64 l]] V fun e V' => e = .returned (.bool (p (k, l))) ∧ V.grownBy V' none) :
  Calls Tryz.prog 110 #[.pointer (some ⟨tb, 0, none⟩), .pointer (some ⟨sb, 0, none⟩)] w fun e w' => e = .returned (.bool (xs.all p)) ∧ w.grownBy w' none := by
 have hmf := makeFunc_run
 have hi := tcontains_any w a n c xs hn hm h 112 #[.pointer (some ⟨sb, 0, none⟩)] (fun x => !p x) (enters_of Tryz.func112 (by kernel_rfl) rfl) (fun k l V hg => tnot_any V sb F p hF (hg.cell hs (by simp)) (fun k l V' hg' => hp k l V' (hg.trans hg')) k l)
 have e : xs.any (fun x => !p x) = !xs.all p := by
  rw [List.not_all_eq_any_not]
 rw [e] at hi
 generalize xs.all p = R at *
 clear hp e hn hm h hs
 go_enter Tryz.func110, Tryz.ntmps110
 go_wp2_with (go_at_call 111; refine hi.mono ?_; rintro e w2 ⟨rfl, hg2⟩)
 go_ret
 exact ⟨by simp, hg2⟩
theorem run_neT (a : Act) (w : World) (oi : Oper) (x y : Operand) (k l k2 l2 : Int) (ho : oi.op = .binOp .neq 57 x y 57) (hx : a.eval x = .agg #[.int .i64 k, .int .i64 l]) (hy : a.eval y = .agg #[.int .i64 k2, .int .i64 l2]) : (execOp a.eval oi).run Tryz.prog w = .ok (.value (.bool ((k, l) != (k2, l2)))) w := by
 unfold execOp
 rw [ho]
 simp only [hx, hy]
 go_simp
 by_cases h1 : k = k2 <;> by_cases h2 : l = l2 <;> simp [h1, h2]
theorem take_eq_next {xs ys : List Ty.T} {t : Nat} {x y : Ty.T} (hx : xs[t]? = some x) (hy : ys[t]? = some y) (h : xs.take t = ys.take t) : (xs.take (t + 1) = ys.take (t + 1)) ↔ x = y := by
 rw [List.take_add_one, List.take_add_one, hx, hy, h]
 simp
theorem tequal_any (w : World) (a a2 : Option Addr) (n c n2 c2 : Nat) (xs ys : List Ty.T) (hn : n = xs.length) (hn2 : n2 = ys.length) (hm : n ≤ 1000000) (h : TyL w a xs) (h2 : TyL w a2 ys) :
  Calls Tryz.prog 121 #[.slice a n c, .slice a2 n2 c2] w fun e w' => e = .returned (.bool (xs == ys)) ∧ w.grownBy w' none := by
 by_cases hnn : n = n2
 ·have hl : xs.length = ys.length := by omega
  subst hnn
  have HN := ld hn
  have HL := ld hl
  have HH := ld (And.intro h h2)
  clear hn hn2 hl h h2
  go_enter Tryz.func121, Tryz.ntmps121
  go_wp2
  go_loopw [13] (fun iv wr => ∃ t : Nat, t ≤ n ∧ iv = .int .i64 (t : Int) ∧ Hid (w.grownBy wr none ∧ xs.take t = ys.take t)) (fun i _ => n - (intOf i).toNat)
  case atStart => exact ⟨0, Nat.zero_le _, rfl, ld ⟨World.grownBy.refl _ _, by simp⟩⟩
  case round =>
   obtain ⟨t, ht, rfl, HQ⟩ := hrel
   by_cases hlt : t < n
   ·obtain ⟨x, hx⟩ : ∃ x, xs[t]? = some x := ⟨_, List.getElem?_eq_getElem (by rw [← HN.out]; exact hlt)⟩
    obtain ⟨y, hy⟩ : ∃ y, ys[t]? = some y := ⟨_, List.getElem?_eq_getElem (by rw [← HL.out, ← HN.out]; exact hlt)⟩
    obtain ⟨g, off, rfl, hc, hc2⟩ := HH.out.1 t x hx
    obtain ⟨g2, off2, rfl, hc3, hc4⟩ := HH.out.2 t y hy
    have q0 := HQ.out.1.cell hc (by simp)
    have q1 := HQ.out.1.cell hc2 (by simp)
    have q2 := HQ.out.1.cell hc3 (by simp)
    have q3 := HQ.out.1.cell hc4 (by simp)
    have HNX := ld (take_eq_next hx hy HQ.out.2)
    have HXY := ld (And.intro hx hy)
    clear hx hy hc hc2 hc3 hc4
    go_wp2
    refine wp_region_L (S := fun V => (wr).grownBy V none) (Z := []) (by kernel_rfl) ?_
    have hS := gdrew (World.grownBy.refl (wr) none)
    refine Wl.t1 0 16 (.slice (some ⟨g, off, none⟩) n c) hS ?_
    (try simp only [Act.put, Wl.sA, Wl.sB, Wl.sC])
    refine Wl.t1 1 17 (.int .i64 (t : Int)) hS ?_
    (try simp only [Act.put, Wl.sA, Wl.sB, Wl.sC])
    refine Wl.t2 2 18 (.pointer (some ⟨g, off + t * 2, none⟩)) (fun w' hw' => ?_) hS ?_
    ·clear hw'; go_simp
    (try simp only [Act.put, Wl.sA, Wl.sB, Wl.sC])
    refine Wl.t2 3 19 (.agg #[.int .i64 x.1, .int .i64 x.2]) (fun w' hw' => ?_) hS ?_
    ·have hc0 := hw'.cell q0 (by simp); have hc1 := hw'.cell q1 (by simp); clear hw'; go_simp
    (try simp only [Act.put, Wl.sA, Wl.sB, Wl.sC])
    refine Wl.t1 4 20 (.slice (some ⟨g2, off2, none⟩) n c2) hS ?_
    (try simp only [Act.put, Wl.sA, Wl.sB, Wl.sC])
    refine Wl.t1 5 21 (.int .i64 (t : Int)) hS ?_
    (try simp only [Act.put, Wl.sA, Wl.sB, Wl.sC])
    refine Wl.t2 6 22 (.pointer (some ⟨g2, off2 + t * 2, none⟩)) (fun w' hw' => ?_) hS ?_
    ·clear hw'; go_simp
    (try simp only [Act.put, Wl.sA, Wl.sB, Wl.sC])
    refine Wl.t2 7 23 (.agg #[.int .i64 y.1, .int .i64 y.2]) (fun w' hw' => ?_) hS ?_
    ·have hc0 := hw'.cell q2 (by simp); have hc1 := hw'.cell q3 (by simp); clear hw'; go_simp
    (try simp only [Act.put, Wl.sA, Wl.sB, Wl.sC])
    refine Wl.t2 8 24 (.bool ((x.1, x.2) != (y.1, y.2))) (fun w' hw' => run_neT _ _ _ _ _ _ _ _ _ rfl rfl rfl) hS ?_
    (try simp only [Act.put, Wl.sA, Wl.sB, Wl.sC])
    refine wpL_done (by kernel_rfl) ?_ _
    by_cases he : x = y
    ·have hb : ((x.1, x.2) != (y.1, y.2)) = false := by subst he; simp
     have HB := ld he
     clear he
     rw [hb]
     go_wp2
     exact ⟨⟨t + 1, by omega, by go_num, ld ⟨HQ.out.1.trans hS, HNX.out.2 HB.out⟩⟩, by simp [intOf]; omega⟩
    ·have hb : ((x.1, x.2) != (y.1, y.2)) = true := by simp; intro h1 h2; exact he (Prod.ext h1 h2)
     have HB := ld he
     clear he
     rw [hb]
     go_wp2
     go_ret
     refine ⟨?_, HQ.out.1.trans hS⟩
     have : (xs == ys) = false := by
      rw [beq_eq_false_iff_ne]
      intro e
      exact HB.out (HNX.out.1 (by rw [e]))
     rw [this]; rfl
   ·have e : t = n := by omega
    subst e
    go_wp2
    go_ret
    refine ⟨?_, HQ.out.1⟩
    have hq := HQ.out.2
    rw [List.take_of_length_le (by rw [← HN.out]; exact Nat.le_refl _), List.take_of_length_le (by rw [← HL.out, ← HN.out]; exact Nat.le_refl _)] at hq
    rw [hq]; simp
 ·have hb : ((n : Int) != (n2 : Int)) = true := by simp; omega
  have hne : (xs == ys) = false := by
   rw [beq_eq_false_iff_ne]
   intro e
   subst e
   omega
  rw [hne]
  clear hn hn2 hne h h2
  go_enter Tryz.func121, Tryz.ntmps121
  go_wp2
  go_ret
  exact ⟨rfl, World.grownBy.refl _ _⟩
structure Pv where
 ac : Nat
 f : Int
 s : Int
 nm : List UInt8
 tk : Int
 tl : Int
 n : Int
 m : Int
 kx : Value
 at_ : Int
 ka : Option Addr
 kn : Nat
 kc : Nat
def Pv.cells (p : Pv) (c : Int) : Array Value := #[.pointer (some ⟨p.ac, 0, none⟩), .int .i64 p.f, .int .i64 p.s, .string ⟨p.nm.toArray⟩, .int .i64 p.tk, .int .i64 p.tl, .int .i64 p.n, .int .i64 p.m, p.kx, .int .i64 p.at_, .slice p.ka p.kn p.kc, .int .i64 c]
def Pt (w : World) (b : Nat) (p : Pv) (c : Int) : Prop := w.heap[b]? = some (.cells (p.cells c) 119 (0, 0))
theorem Pt.kept {w w' : World} {b : Nat} {p : Pv} {c : Int} (h : Pt w b p c) (hg : w.grownBy w' none) : Pt w' b p c := (hg.block b (gl h) (by simp)).trans h
theorem Pt.cell {w : World} {b : Nat} {p : Pv} {c : Int} (h : Pt w b p c) (k : Nat) : w.cell? ⟨b, k, none⟩ = (p.cells c)[k]? := cell_of_row w b k _ _ _ h
theorem galloc3 (w : World) (o p q : Obj) : w.grownBy (((w.alloc o).alloc p).alloc q) none := (galloc2 w o p).trans (ga _ q none)
theorem alloc3_cell (w : World) (x y z : Value) (s t u : TypeId) : (((w.alloc (.cells #[x] s)).alloc (.cells #[y] t)).alloc (.cells #[z] u)).cell? ⟨w.heap.size, 0, none⟩ = some x ∧ (((w.alloc (.cells #[x] s)).alloc (.cells #[y] t)).alloc (.cells #[z] u)).cell? ⟨w.heap.size + 1, 0, none⟩ = some y ∧ (((w.alloc (.cells #[x] s)).alloc (.cells #[y] t)).alloc (.cells #[z] u)).cell? ⟨w.heap.size + 1 + 1, 0, none⟩ = some z := by
 refine ⟨(galloc2 _ _ _).cell (cell_of_row _ _ 0 _ _ _ (heap_alloc_new w _)) (by simp), (ga _ _ none).cell (cell_of_row _ _ 0 _ _ _ (heap_alloc_2 w _ _)) (by simp), ?_⟩
 have := heap_alloc_2 (w.alloc (.cells #[x] s)) (.cells #[y] t) (.cells #[z] u)
 rw [World.size_alloc] at this
 exact cell_of_row _ _ 0 _ _ _ this
theorem alloc2_cell (w : World) (x y : Value) (s t : TypeId) : ((w.alloc (.cells #[x] s)).alloc (.cells #[y] t)).cell? ⟨w.heap.size, 0, none⟩ = some x ∧ ((w.alloc (.cells #[x] s)).alloc (.cells #[y] t)).cell? ⟨w.heap.size + 1, 0, none⟩ = some y :=
 ⟨(ga _ _ none).cell (cell_of_row _ _ 0 _ _ _ (heap_alloc_new w _)) (by simp), cell_of_row _ _ 0 _ _ _ (heap_alloc_2 w _ _)⟩
theorem tall_any (w : World) (a : Option Addr) (n c : Nat) (xs : List Ty.T) (hn : n = xs.length) (hm : n ≤ 1000000) (h : TyL w a xs) (F : Nat) (p : Ty.T → Bool) (hF : ∀ args w, (callFunc F args).run Tryz.prog w = .ok (.enter F args) w) (hp : ∀ k l V, Calls Tryz.prog F #[.agg #[.int .i64 k, .int .i64 l]] V fun e V' => e = .returned (.bool (p (k, l))) ∧ V.grownBy V' none) :
  Calls Tryz.prog 73 #[.func (.func F) #[] #[], .slice a n c] w fun e w' => ∃ v, e = .returned v ∧ Dem w' v (xs.all p) ∧ w.grownBy w' none := by
 have hmf := makeFunc_run
 obtain ⟨c1, c2⟩ := alloc2_cell w (.func (.func F) #[] #[]) (.slice a n c) 105 117
 have hd : Dem ((w.alloc (.cells #[.func (.func F) #[] #[]] 105)).alloc (.cells #[.slice a n c] 117)) (.func (.func 110) #[] #[.pointer (some ⟨w.heap.size + 1, 0, none⟩), .pointer (some ⟨w.heap.size, 0, none⟩)]) (xs.all p) :=
  ⟨_, _, rfl, enters_of Tryz.func110 (by kernel_rfl) rfl, fun w' hg => tall1_any w' (w.heap.size + 1) w.heap.size a n c xs hn hm (h.kept ((galloc2 _ _ _).trans hg)) (hg.cell c2 (by simp)) F p hF (hg.cell c1 (by simp)) (fun k l V _ => hp k l V)⟩
 have HD := ld (And.intro hd (galloc2 w (.cells #[.func (.func F) #[] #[]] 105) (.cells #[.slice a n c] 117)))
 clear hd c1 c2 hn hm h hF hp
 go_enter Tryz.func73, Tryz.ntmps73
 go_wp2
 go_ret
 exact ⟨_, rfl, HD.out.1, HD.out.2⟩
theorem twithin1_any (w : World) (b1 b2 b3 : Nat) (x y z : Int) (h1 : w.cell? ⟨b1, 0, none⟩ = some (.int .i64 x)) (h2 : w.cell? ⟨b2, 0, none⟩ = some (.int .i64 y)) (h3 : w.cell? ⟨b3, 0, none⟩ = some (.int .i64 z)) :
  Calls Tryz.prog 116 #[.pointer (some ⟨b1, 0, none⟩), .pointer (some ⟨b2, 0, none⟩), .pointer (some ⟨b3, 0, none⟩)] w fun e w' => e = .returned (.bool (decide (x ≤ y ∧ y ≤ z))) ∧ w.grownBy w' none := by
 by_cases hxy : x ≤ y
 ·have d1 : decide (x ≤ y) = true := by simpa using hxy
  have d2 : decide (x ≤ y ∧ y ≤ z) = decide (y ≤ z) := by simp [hxy]
  rw [d2]
  go_enter Tryz.func116, Tryz.ntmps116
  go_wp2
  go_ret
  exact ⟨rfl, World.grownBy.refl _ _⟩
 ·have d1 : decide (x ≤ y) = false := by simpa using hxy
  have d2 : decide (x ≤ y ∧ y ≤ z) = false := by simp [hxy]
  rw [d2]
  clear hxy
  go_enter Tryz.func116, Tryz.ntmps116
  go_wp2
  go_ret
  exact ⟨rfl, World.grownBy.refl _ _⟩
theorem twithin_any (w : World) (x y z : Int) : Calls Tryz.prog 80 #[.int .i64 x, .int .i64 y, .int .i64 z] w fun e w' => ∃ v, e = .returned v ∧ Dem w' v (decide (x ≤ y ∧ y ≤ z)) ∧ w.grownBy w' none := by
 have hmf := makeFunc_run
 obtain ⟨c1, c2, c3⟩ := alloc3_cell w (.int .i64 x) (.int .i64 y) (.int .i64 z) 3 3 3
 have hg3 := galloc3 w (.cells #[.int .i64 x] 3) (.cells #[.int .i64 y] 3) (.cells #[.int .i64 z] 3)
 have hd : Dem (((w.alloc (.cells #[.int .i64 x] 3)).alloc (.cells #[.int .i64 y] 3)).alloc (.cells #[.int .i64 z] 3)) (.func (.func 116) #[] #[.pointer (some ⟨w.heap.size, 0, none⟩), .pointer (some ⟨w.heap.size + 1, 0, none⟩), .pointer (some ⟨w.heap.size + 1 + 1, 0, none⟩)]) (decide (x ≤ y ∧ y ≤ z)) :=
  ⟨_, _, rfl, enters_of Tryz.func116 (by kernel_rfl) rfl, fun w' hg => twithin1_any w' _ _ _ x y z (hg.cell c1 (by simp)) (hg.cell c2 (by simp)) (hg.cell c3 (by simp))⟩
 have HD := ld (And.intro hd hg3)
 clear hd c1 c2 c3 hg3
 go_enter Tryz.func80, Tryz.ntmps80
 go_wp2
 go_ret
 exact ⟨_, rfl, HD.out.1, HD.out.2⟩
theorem tok_variable (w : World) (b : Nat) (q : Bool) (h : w.cell? ⟨b, 0, none⟩ = some (.bool q)) : Dem w (.func (.func 71) #[] #[.pointer (some ⟨b, 0, none⟩)]) q := by
 refine ⟨_, _, rfl, enters_of Tryz.func71 (by kernel_rfl) rfl, fun w' hg => ?_⟩
 have h' := hg.cell h (by simp)
 clear h hg
 go_enter Tryz.func71, Tryz.ntmps71
 go_wp2
 go_ret
 exact ⟨rfl, World.grownBy.refl _ _⟩
theorem tok_unary (w : World) (b : Nat) (q : Bool) (h : w.cell? ⟨b, 0, none⟩ = some (.bool q)) : Dem w (.func (.func 75) #[] #[.pointer (some ⟨b, 0, none⟩)]) q := by
 refine ⟨_, _, rfl, enters_of Tryz.func75 (by kernel_rfl) rfl, fun w' hg => ?_⟩
 have h' := hg.cell h (by simp)
 clear h hg
 go_enter Tryz.func75, Tryz.ntmps75
 go_wp2
 go_ret
 exact ⟨rfl, World.grownBy.refl _ _⟩
theorem tok_binary (w : World) (b : Nat) (q : Bool) (h : w.cell? ⟨b, 0, none⟩ = some (.bool q)) : Dem w (.func (.func 78) #[] #[.pointer (some ⟨b, 0, none⟩)]) q := by
 refine ⟨_, _, rfl, enters_of Tryz.func78 (by kernel_rfl) rfl, fun w' hg => ?_⟩
 have h' := hg.cell h (by simp)
 clear h hg
 go_enter Tryz.func78, Tryz.ntmps78
 go_wp2
 go_ret
 exact ⟨rfl, World.grownBy.refl _ _⟩
theorem tok_called (w : World) (b : Nat) (q : Bool) (h : w.cell? ⟨b, 0, none⟩ = some (.bool q)) : Dem w (.func (.func 117) #[] #[.pointer (some ⟨b, 0, none⟩)]) q := by
 refine ⟨_, _, rfl, enters_of Tryz.func117 (by kernel_rfl) rfl, fun w' hg => ?_⟩
 have h' := hg.cell h (by simp)
 clear h hg
 go_enter Tryz.func117, Tryz.ntmps117
 go_wp2
 go_ret
 exact ⟨rfl, World.grownBy.refl _ _⟩
def wfT (t : Ty.T) : Prop := (Lit.int .i64 t.1).wf = true ∧ (Lit.int .i64 t.2).wf = true ∧ 0 ≤ t.2
theorem tLaid : laidOutB Tryz.prog = true := by kernel_rfl
theorem tRow : (57 : TypeId) < Tryz.prog.types.size := of_decide_eq_true (by kernel_rfl)
theorem tWide : (match Tryz.prog.underlying 57 with | some (.array _ _) | some (.struct _) => true | _ => false) = true := by kernel_rfl
theorem tLaw : Keyed Tryz.prog 57 := Keyed.of_law (deep_law_laid tLaid (m := 2) (by omega) tRow (by kernel_rfl) tWide)
theorem tKeyType : Tryz.prog.keyType 57 = true := by kernel_rfl
theorem tCells : Tryz.prog.cellsOf 57 = 2 := by kernel_rfl
theorem tCells1 : Tryz.prog.cellsOf 3 = 1 := by kernel_rfl
theorem tSize : Tryz.prog.types.size = 216 := by kernel_rfl
def keyT (t : Ty.T) : Lit := .string (keyBytes [.int .i64 t.1, .int .i64 t.2])
theorem keyLits_int (d : Nat) (n : Int) (h : (Lit.int .i64 n).wf = true) : Tryz.prog.keyLits (d + 1) 3 [.int .i64 n] = some [.int .i64 n] := by
 unfold Program.keyLits
 rw [Tryz.underlying3]
 simp only
 rw [if_pos ⟨trivial, h⟩]
theorem keyLits_T (d : Nat) (k l : Int) (h1 : (Lit.int .i64 k).wf = true) (h2 : (Lit.int .i64 l).wf = true) : Tryz.prog.keyLits (d + 1 + 1) 57 [.int .i64 k, .int .i64 l] = some [.int .i64 k, .int .i64 l] := by
 have a1 := keyLits_int d k h1
 have a2 := keyLits_int d l h2
 unfold Program.keyLits
 rw [Tryz.underlying57]
 simp only
 rw [if_pos ⟨by rw [tCells]; rfl, by kernel_rfl⟩]
 simp [tCells1, a1, a2]
theorem tDeep : Tryz.prog.types.size + 1 = (Tryz.prog.types.size - 1) + 1 + 1 := by rw [tSize]
theorem key_of_T {t : Ty.T} (h : wfT t) : keyOf Tryz.prog 57 (.agg #[.int .i64 t.1, .int .i64 t.2]) = some (keyT t) := by
 have a1 := keyLits_T (Tryz.prog.types.size - 1) t.1 t.2 h.1 h.2.1
 rw [← tDeep] at a1
 have a2 : (Value.agg #[.int .i64 t.1, .int .i64 t.2]).formed Tryz.prog 57 = true := by
  simp only [Value.formed, Tryz.underlying57, tCells]
  rfl
 unfold keyOf keyT
 rw [Tryz.underlying57]
 simp only [tKeyType, a2, Bool.and_self, if_true]
 show ((Program.keyLits Tryz.prog (Tryz.prog.types.size + 1) 57 [.int .i64 t.1, .int .i64 t.2]).map _) = _
 rw [a1]
 rfl
theorem keyT_inj {x y : Ty.T} (hx : wfT x) (hy : wfT y) (h : keyT x = keyT y) : x = y := by
 have := tLaw.inj (key_of_T hx) (by rw [h]; exact key_of_T hy)
 simp at this
 exact Prod.ext this.1 this.2
theorem isKey_T (x : Ty.T) : WideAt.IsKeyLit (keyT x) := by unfold keyT; first | exact trivial | simp [WideAt.IsKeyLit]
namespace Ty
def Sz (l : List T) (n : Nat) : Prop := (n = 0 ↔ l = []) ∧ (n = 1 ↔ same l = true)
theorem Sz.snoc {l : List T} {n : Nat} (h : Sz l n) (x : T) : Sz (l ++ [x]) (if l.contains x then n else n + 1) := by
 cases l with
 | nil =>
  have h0 : n = 0 := h.1.2 rfl
  subst h0
  simp [Sz, same]
 | cons y r =>
  have h0 : n ≠ 0 := fun e => by have := h.1.1 e; cases this
  have h1 := h.2
  simp only [same, List.cons_append, List.all_append, List.all_cons, List.all_nil, Bool.and_true] at h1 ⊢
  refine ⟨by simp; split <;> omega, ?_⟩
  by_cases hc : (y :: r).contains x = true
  ·rw [if_pos hc, h1]
   simp only [same, List.all_append, List.all_cons, List.all_nil, Bool.and_true, Bool.and_eq_true, List.cons_append]
   constructor
   ·intro ha
    refine ⟨ha, ?_⟩
    rw [List.contains_iff_mem] at hc
    rcases List.mem_cons.1 hc with e | e
    ·simp [e]
    ·exact List.all_eq_true.1 ha x e
   ·exact fun ha => ha.1
  ·rw [if_neg hc]
   constructor
   ·intro e; omega
   ·intro ha
    exfalso
    simp only [same, List.all_append, List.all_cons, List.all_nil, Bool.and_true, Bool.and_eq_true, List.cons_append] at ha
    apply hc
    have e := eq_of_beq ha.2
    subst e
    simp
end Ty
theorem tsame1_any (w : World) (tb : Nat) (a : Option Addr) (n c : Nat) (xs : List Ty.T) (hn : n = xs.length) (hm : n ≤ 1000000) (h : TyL w a xs) (hwf : ∀ x ∈ xs, wfT x) (ht : w.cell? ⟨tb, 0, none⟩ = some (.slice a n c)) :
  Calls Tryz.prog 115 #[.pointer (some ⟨tb, 0, none⟩)] w fun e w' => e = .returned (.bool (Ty.same xs)) ∧ w.grownBy w' none := by
 obtain ⟨R, hR⟩ : ∃ R, R = Ty.same xs := ⟨_, rfl⟩
 rw [← hR]
 have hmm := @run_makeMap Tryz.prog
 have ht' := (ga w (.map #[] 0) none).cell ht (by simp)
 have HR := ld hR
 have HN := ld hn
 have HH := ld (And.intro h hwf)
 clear hR hn h hwf ht
 go_enter Tryz.func115, Tryz.ntmps115
 go_wp2
 go_loopw [8] (fun iv wr => ∃ t : Nat, t ≤ n ∧ iv = .int .i64 (t : Int) ∧ Hid (w.grownBy wr none ∧ ∃ D : DataW Unit, wr.ownsMap Tryz.prog 57 unitElem w.heap.size t D ∧ (∀ x, wfT x → Maps.has D (keyT x) = (xs.take t).contains x) ∧ Ty.Sz (xs.take t) (Maps.size D))) (fun i _ => n - (intOf i).toNat)
 case atStart => exact ⟨0, Nat.zero_le _, rfl, ld ⟨ga _ _ _, _, World.ownsMap_made w _ _ _, fun x _ => by simp [Maps.has_eq], by simp [Ty.Sz, Ty.same, Maps.size]⟩⟩
 case round =>
  obtain ⟨t, htn, rfl, HQ⟩ := hrel
  obtain ⟨hg, D, hD, hhas, hsz⟩ := HQ.out
  by_cases hlt : t < n
  ·obtain ⟨x, hx⟩ : ∃ x, xs[t]? = some x := ⟨_, List.getElem?_eq_getElem (by rw [← HN.out]; exact hlt)⟩
   obtain ⟨g, off, rfl, hc, hc2⟩ := HH.out.1 t x hx
   have q0 := hg.cell hc (by simp)
   have q1 := hg.cell hc2 (by simp)
   have hwx := HH.out.2 x (List.mem_of_getElem? hx)
   have hkey := key_of_T hwx
   have hga := ga wr (.cells #[.int .i64 x.1, .int .i64 x.2] 57 (0, 0)) none
   obtain ⟨w5, r5, m5, t5⟩ := (hD.kept hga (by simp)).store tLaw Tryz.underlying166 (by unfold maxLen; omega) hkey (show unitElem (.agg #[]) = some (.agg [], []) from rfl)
   have hg5 : w.grownBy w5 none := (hg.trans hga).andThen t5.grown (fun j e => .inl (by cases e; exact Nat.le_refl _))
   have HF : Hid (w.grownBy w5 none ∧ ∃ D : DataW Unit, w5.ownsMap Tryz.prog 57 unitElem w.heap.size (t + 1) D ∧ (∀ x, wfT x → Maps.has D (keyT x) = (xs.take (t + 1)).contains x) ∧ Ty.Sz (xs.take (t + 1)) (Maps.size D)) := ld (by
    refine ⟨hg5, _, m5, fun y hy => ?_, ?_⟩
    ·rw [List.take_add_one, hx]
     by_cases e : y = x
     ·subst e
      rw [Maps.has_put_same hD.isMap (isKey_T y)]
      simp
     ·rw [Maps.has_put_other (fun e2 => e (keyT_inj hy hwx e2)), hhas y hy]
      simp [e]
    ·rw [Maps.size_put (hD.tidy tLaw), hhas x hwx, List.take_add_one, hx]
     exact hsz.snoc x)
   clear hD hhas hsz HQ hkey m5 t5 hg5 hga hx hc hc2 hg hwx
   go_wp2
   exact ⟨⟨t + 1, by omega, by go_num, HF⟩, by simp [intOf]; omega⟩
  ·have e : t = n := by omega
   subst e
   have hlen := hD.len Tryz.underlying166 3
   have hz := hsz.2
   rw [List.take_of_length_le (by rw [← HN.out]; exact Nat.le_refl _), ← HR.out] at hz
   have HZ := ld (And.intro hz hg)
   generalize Maps.size D = s at *
   clear hD hhas hsz hz HQ hg
   go_wp2
   go_ret
   refine ⟨?_, HZ.out.2⟩
   show Ending.returned (.bool ((s : Int) == 1)) = _
   have hz := HZ.out.1
   cases R with
   | true => rw [hz.2 rfl]; rfl
   | false =>
    have : s ≠ 1 := fun e => by have := hz.1 e; cases this
    have e : ((s : Int) == 1) = false := by rw [beq_eq_false_iff_ne]; omega
    rw [e]
end Go.Proofs.YtbbamgjdnibldaaGreat
