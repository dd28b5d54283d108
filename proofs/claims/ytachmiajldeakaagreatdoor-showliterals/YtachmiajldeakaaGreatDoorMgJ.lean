/- My texts GtQ GtR GtS GtT GtU, joined. -/
import Derived.Test.YtachmiajldeakaaGreatDoorMgI
import Derived.WalkKit
import Derived.LaidEql
import Derived.Stop.Asserts
import Derived.RowKitTokens
import Derived.BigQuiet
import Derived.Defers
import Derived.Recover
set_option linter.unusedVariables false
/- gram's newParser and byPrecedence. -/
namespace Go.Proofs.YtachmiajldeakaaGreatDoor
open Go.RowKit Go.Maps Go.WideMaps

def allocs (w : World) : List Obj → World
  | [] => w
  | o :: r => allocs (w.alloc o) r
theorem allocs_grown : ∀ (l : List Obj) (w : World) (row : Option Nat), w.grownBy (allocs w l) row
  | [], w, row => World.grownBy.refl _ _
  | o :: r, w, row => (World.grownBy_alloc w o row).trans (allocs_grown r (w.alloc o) row)
theorem allocs_at : ∀ (l : List Obj) (w : World) (k : Nat), k < l.length → (allocs w l).heap[w.heap.size + k]? = l[k]?
  | [], _, _, h => by cases h
  | o :: r, w, 0, _ => by
    have h1 := (allocs_grown r (w.alloc o) none).block w.heap.size (by simp) (by simp)
    show (allocs (w.alloc o) r).heap[w.heap.size]? = _
    rw [h1]
    exact heap_alloc_new w o
  | o :: r, w, k + 1, h => by
    have h1 := allocs_at r (w.alloc o) k (by simpa using h)
    rw [World.size_alloc] at h1
    have e : w.heap.size + (k + 1) = w.heap.size + 1 + k := by omega
    rw [e]
    show (allocs (w.alloc o) r).heap[w.heap.size + 1 + k]? = _
    simpa using h1
def ruleObjs (b h : Nat) : List Obj := (List.range 12).map (ruleBlk b h)

set_option maxHeartbeats 3200000 in
set_option maxRecDepth 20000 in
theorem gbyPrec_any (b : Nat) (w : World) :
    Calls Tryz.prog 32 #[.pointer (some ⟨b, 0, none⟩)] w fun e w' => e = .returned (.slice (some ⟨w.heap.size + 11, 0, none⟩) 12 12) ∧ w' = allocs w (ruleObjs b w.heap.size) := by
  have hmf := makeFunc_run
  go_enter Tryz.func32, Tryz.ntmps32
  go_wp2
  go_ret
  exact ⟨rfl, rfl⟩

set_option maxHeartbeats 3200000 in
set_option maxRecDepth 20000 in
theorem gnewParser_any (g cap : Nat) (T : List Lex.Tk) (w : World) (hown : w.ownsRow 0 100 6 (.slice (some ⟨g, 0, none⟩) T.length cap) T.length (Lex.row T)) (hm : T.length ≤ 20000) (h0 : 0 < T.length)
    (hlast : ∀ i, i < T.length → ((Gram.tk T i).kind ≠ 5 ∨ (Gram.tk T i).text ≠ []) → i + 1 < T.length) :
    Calls Tryz.prog 18 #[.slice (some ⟨g, 0, none⟩) T.length cap] w fun e w' => e = .returned (.pointer (some ⟨w.heap.size, 0, none⟩)) ∧ (∃ rv, Pa w' w.heap.size g cap rv T 0 0) ∧ w.grownBy w' none := by
  have hgl : g < w.heap.size := (hown.lt g rfl).2
  obtain ⟨PO, hPO⟩ : ∃ PO : Obj, PO = .cells #[.slice (some ⟨g, 0, none⟩) T.length cap, .int .i64 0, .int .i64 0, .slice none 0 0] 94 := ⟨_, rfl⟩
  have hb := gbyPrec_any w.heap.size (w.alloc PO)
  rw [World.size_alloc] at hb
  have hgA := allocs_grown (ruleObjs w.heap.size (w.heap.size + 1)) (w.alloc PO) none
  have hat := allocs_at (ruleObjs w.heap.size (w.heap.size + 1)) (w.alloc PO)
  rw [World.size_alloc] at hat
  have hq : (allocs (w.alloc PO) (ruleObjs w.heap.size (w.heap.size + 1))).heap[w.heap.size]? = some (.cells #[.slice (some ⟨g, 0, none⟩) T.length cap, .int .i64 0, .int .i64 0, .slice none 0 0] 94 (0, 0)) := by
    rw [hgA.block w.heap.size (by simp) (by simp), heap_alloc_new, hPO]
  generalize allocs (w.alloc PO) (ruleObjs w.heap.size (w.heap.size + 1)) = W at hb hgA hat hq
  have z3 : W.cell? ⟨w.heap.size, 3, none⟩ = some (.slice none 0 0) := by rw [cell_of_row W w.heap.size 3 _ _ _ hq]; simp
  have zf := frozen_of_row W w.heap.size 3 _ _ hq
  rw [hPO] at hb
  go_enter Tryz.func18, Tryz.ntmps18
  go_wp2_with (first | (go_at_call 32; refine hb.mono ?_; rintro e w9 ⟨rfl, hw9⟩; rw [hw9]; clear hw9))
  go_ret
  have hg1 : w.grownBy W none := (World.grownBy_alloc w PO none).trans hgA
  have hgS : W.grownBy (W.setCell ⟨w.heap.size, 3, none⟩ (.slice (some ⟨w.heap.size + 1 + 11, 0, none⟩) 12 12)) (some w.heap.size) := grown_set W ⟨w.heap.size, 3, none⟩ _
  have hG : w.grownBy (W.setCell ⟨w.heap.size, 3, none⟩ (.slice (some ⟨w.heap.size + 1 + 11, 0, none⟩) 12 12)) none := hg1.andThen hgS (fun j e => .inl (by cases e; exact Nat.le_refl _))
  refine ⟨rfl, ⟨.slice (some ⟨w.heap.size + 1 + 11, 0, none⟩) 12 12, ?_⟩, hG⟩
  refine ⟨⟨hown.kept hG (by simp [Value.ownBlock]), by omega, hm, hlast⟩, ?_, h0, w.heap.size + 1, rfl, by omega, fun k hk => ?_⟩
  · unfold Pst
    rw [heap_setCell_same W w.heap.size 3 _ _ _ hq]
    simp
  · have hW : w.heap.size + 1 + k < W.heap.size := by
      have e := hat k (by simpa [ruleObjs] using hk)
      have e2 : (ruleObjs w.heap.size (w.heap.size + 1))[k]? = some (ruleBlk w.heap.size (w.heap.size + 1) k) := by simp [ruleObjs, hk]
      rw [e2] at e
      exact (Array.getElem?_eq_some_iff.1 e).1
    rw [hgS.block _ hW (by simp; omega), hat k (by simpa [ruleObjs] using hk)]
    simp [ruleObjs, hk]

end Go.Proofs.YtachmiajldeakaaGreatDoor

/- errors.As of a parser's fault, and gram's told (after the guide's worked errors.As at a concrete target). -/
namespace Go.Proofs.YtachmiajldeakaaGreatDoor
open Go.RowKit Go.Extern.Stop Go.Stop Go.Extern

theorem as_valueOfP (t : Addr) (w : World) : (ReflectliteValue.unpack (.iface 91 (.pointer (some t)))).run Tryz.prog w
    = .ok (.agg #[.pointer (some ⟨7, 91, none⟩), .pointer (some ⟨w.heap.size, 0, none⟩), .int .u64 150]) (w.alloc (.cells #[.pointer (some t)] 91)) := by kernel_rfl
theorem as_typeP (a : Addr) (w : World) : (ReflectliteValue.methodAny (ReflectliteValue.valueError "reflectlite.Value.Type" 0) (fun t _ _ _ => ReflectliteType.toType t) #[.agg #[.pointer (some ⟨7, 91, none⟩), .pointer (some a), .int .u64 150]]).run Tryz.prog w
    = .ok (.iface 156 (.agg #[.pointer (some ⟨7, 91, none⟩)])) w := by kernel_rfl
theorem as_methodKind (h : Value) (w : World) : (Go.method 384 156 (.agg #[h]) "Kind").run Tryz.prog w = .ok (237, h) w := by kernel_rfl
theorem as_kindP (w : World) : ((ReflectliteType.abiMethod fun t => (fun a : Nat => Value.int IntKind.u8 (a : Int)) <$> Rtype.kind t) #[.pointer (some ⟨7, 91, none⟩)]).run Tryz.prog w = .ok (.int .u8 22) w := by kernel_rfl
theorem as_kindF (w : World) : ((ReflectliteType.abiMethod fun t => (fun a : Nat => Value.int IntKind.u8 (a : Int)) <$> Rtype.kind t) #[.pointer (some ⟨7, 86, none⟩)]).run Tryz.prog w = .ok (.int .u8 25) w := by kernel_rfl
theorem as_rlm (z : Sem Value) (f : TypeId → Addr → Nat → Nat → Sem Value) (v : Value) :
    ReflectliteValue.method z f #[v] = (do match ← ReflectliteValue.parts v with | none => z | some (t, a, fl) => f t a fl (fl % 32)) := rfl
theorem as_partsP (a : Addr) (w : World) : (ReflectliteValue.parts (.agg #[.pointer (some ⟨7, 91, none⟩), .pointer (some a), .int .u64 150])).run Tryz.prog w = .ok (some (91, a, 150)) w := by kernel_rfl
theorem as_isNilP (a p : Addr) (W : World) (ha : W.cell? a = some (.pointer (some p))) :
    (ReflectliteValue.method (ReflectliteValue.valueError "reflectlite.Value.IsNil" 0) ReflectliteValue.isNil #[.agg #[.pointer (some ⟨7, 91, none⟩), .pointer (some a), .int .u64 150]]).run Tryz.prog W = .ok (.bool false) W := by
  rw [as_rlm]
  simp only [Sem.run_bind, as_partsP, Result.andThen]
  simp [ReflectliteValue.isNil, loadVar, isAgg, underlying, Tryz.underlying91, ha, Result.andThen]
theorem as_methodElem (h : Value) (w : World) : (Go.method 384 156 (.agg #[h]) "Elem").run Tryz.prog w = .ok (248, .agg #[h]) w := by kernel_rfl
theorem as_methodImplements (h : Value) (w : World) : (Go.method 384 156 (.agg #[h]) "Implements").run Tryz.prog w = .ok (249, .agg #[h]) w := by kernel_rfl
theorem as_methodAssignableTo (h : Value) (w : World) : (Go.method 384 156 (.agg #[h]) "AssignableTo").run Tryz.prog w = .ok (246, .agg #[h]) w := by kernel_rfl
theorem as_elemP (w : World) : (ReflectliteType.method ReflectliteType.elem #[.agg #[.pointer (some ⟨7, 91, none⟩)]]).run Tryz.prog w = .ok (.iface 156 (.agg #[.pointer (some ⟨7, 86, none⟩)])) w := by kernel_rfl
theorem as_implementsF (w : World) : (ReflectliteType.relation "Implements" ReflectliteType.implements_ #[.agg #[.pointer (some ⟨7, 86, none⟩)], .iface 156 (.agg #[.pointer (some ⟨7, 88, none⟩)])]).run Tryz.prog w = .ok (.bool true) w := by kernel_rfl
theorem as_typeOfF (v : Value) (w : World) : (ReflectliteType.typeOf #[.iface 86 v]).run Tryz.prog w = .ok (.iface 156 (.agg #[.pointer (some ⟨7, 86, none⟩)])) w := by kernel_rfl
theorem as_assignableF (w : World) : (ReflectliteType.relation "AssignableTo" ReflectliteType.assignableTo #[.agg #[.pointer (some ⟨7, 86, none⟩)], .iface 156 (.agg #[.pointer (some ⟨7, 86, none⟩)])]).run Tryz.prog w = .ok (.bool true) w := by kernel_rfl
theorem as_valueOfF (a er : Int) (w : World) : (ReflectliteValue.unpack (.iface 86 (.agg #[.int .i64 a, .int .i64 er]))).run Tryz.prog w
    = .ok (.agg #[.pointer (some ⟨7, 86, none⟩), .pointer (some ⟨w.heap.size, 0, none⟩), .int .u64 153]) (w.alloc (.cells #[.int .i64 a, .int .i64 er] 86)) := by kernel_rfl
theorem as_elemOfP (w : World) : (Rtype.elem? 91).run Tryz.prog w = .ok (some 86) w := by kernel_rfl
theorem as_mkF (p : Addr) (w : World) : (ReflectliteValue.mk 86 p ReflectliteValue.flagAddr).run Tryz.prog w = .ok (.agg #[.pointer (some ⟨7, 86, none⟩), .pointer (some p), .int .u64 409]) w := by kernel_rfl
theorem as_elemVP (a p : Addr) (W : World) (ha : W.cell? a = some (.pointer (some p))) :
    (ReflectliteValue.method (ReflectliteValue.valueError "reflectlite.Value.Elem" 0) ReflectliteValue.elem #[.agg #[.pointer (some ⟨7, 91, none⟩), .pointer (some a), .int .u64 150]]).run Tryz.prog W
      = .ok (.agg #[.pointer (some ⟨7, 86, none⟩), .pointer (some p), .int .u64 409]) W := by
  rw [as_rlm]
  simp only [Sem.run_bind, as_partsP, Result.andThen]
  simp [ReflectliteValue.elem, loadVar, isAgg, underlying, Tryz.underlying91, ha, Result.andThen, as_elemOfP, as_mkF]
theorem as_rls (v x : Value) : ReflectliteValue.set #[v, x] = (do
    let (some (dst, a, fl), some (src, b, _)) := (← ReflectliteValue.parts v, ← ReflectliteValue.parts x)
      | unsupported (.noEntry "extern/(internal/reflectlite.Value).Set.zeroValue")
    if fl / ReflectliteValue.flagAddr % 2 == 0 then unsupported (.noEntry "extern/(internal/reflectlite.Value).Set.unaddressable")
    let val ← loadVar src b
    if ← Rtype.directlyAssignable dst src then storeVar dst a val
    else if ← Rtype.implements dst src then
      if (← Rtype.kind src) == 20 then
        match val with
        | .nilIface => unsupported (.noEntry "extern/reflectlite: a nil value of one interface type handed on as a value of another")
        | _ => storeVar dst a val
      else storeVar dst a (.iface src val)
    else panicString ("reflectlite.Set: value of type " ++ (← Rtype.spelt src) ++ " is not assignable to type " ++ (← Rtype.spelt dst))
    pure (.tuple #[])) := rfl
theorem as_partsFa (a : Addr) (w : World) : (ReflectliteValue.parts (.agg #[.pointer (some ⟨7, 86, none⟩), .pointer (some a), .int .u64 409])).run Tryz.prog w = .ok (some (86, a, 409)) w := by kernel_rfl
theorem as_partsF (a : Addr) (w : World) : (ReflectliteValue.parts (.agg #[.pointer (some ⟨7, 86, none⟩), .pointer (some a), .int .u64 153])).run Tryz.prog w = .ok (some (86, a, 153)) w := by kernel_rfl
theorem as_directF (w : World) : (Rtype.directlyAssignable 86 86).run Tryz.prog w = .ok true w := by kernel_rfl
theorem as_setF (q p : Nat) (a er : Int) (W : World) (hb : W.rangeAt p 0 [.int .i64 a, .int .i64 er]) (ht : W.there q 0 2) :
    (ReflectliteValue.set #[.agg #[.pointer (some ⟨7, 86, none⟩), .pointer (some ⟨q, 0, none⟩), .int .u64 409], .agg #[.pointer (some ⟨7, 86, none⟩), .pointer (some ⟨p, 0, none⟩), .int .u64 153]]).run Tryz.prog W
      = .ok (.tuple #[]) (W.setCells q 0 [.int .i64 a, .int .i64 er]) := by
  have hl := run_loadVar_mid (P := Tryz.prog) W p 0 86 [.int .i64 a, .int .i64 er] _ hb Tryz.underlying86 rfl (by kernel_rfl)
  have hst := run_storeVar_mid (P := Tryz.prog) W q 0 86 #[.int .i64 a, .int .i64 er] ht (by kernel_rfl) (by simp [Value.oneCell'])
  rw [as_rls]
  simp only [Sem.run_bind, as_partsFa, as_partsF, Result.andThen]
  simp [ReflectliteValue.flagAddr, hl, hst, Result.andThen, as_directF]

end Go.Proofs.YtachmiajldeakaaGreatDoor

/- errors.As at a parser's fault; gram's told. -/
namespace Go.Proofs.YtachmiajldeakaaGreatDoor
open Go.RowKit Go.Extern.Stop Go.Stop Go.Extern Go.Maps Go.WideMaps

def VBx (n : Nat) : Obj := .cells #[.pointer (some ⟨7, 91, none⟩), .pointer (some ⟨n, 0, none⟩), .int .u64 150] 114

set_option maxHeartbeats 6400000 in
set_option maxRecDepth 20000 in
theorem gAs_fault (a er : Int) (q : Nat) (x0 x1 : Value) (w : World) (hg : w.cell? ⟨0, 0, none⟩ = some (.iface 156 (.agg #[.pointer (some ⟨7, 88, none⟩)]))) (hq : w.heap[q]? = some (.cells #[x0, x1] 86 (0, 0))) :
    Calls Tryz.prog 31 #[.iface 86 (.agg #[.int .i64 a, .int .i64 er]), .iface 91 (.pointer (some ⟨q, 0, none⟩))] w fun ev w' => ev = .returned (.bool true) ∧ w' = ((((w.alloc (.cells #[.pointer (some ⟨q, 0, none⟩)] 91)).alloc (VBx w.heap.size)).alloc (VBx w.heap.size)).alloc (.cells #[.int .i64 a, .int .i64 er] 86)).setCells q 0 [.int .i64 a, .int .i64 er] := by
  unfold VBx
  have h6 := run_callFunc_extern (P := Tryz.prog) (f := 67) (e := (fun args => ReflectliteValue.unpack (args.getD 0 (.tuple #[])))) Tryz.func67 (by kernel_rfl) (by kernel_rfl) (by kernel_rfl) (by kernel_rfl)
  have h7 := run_callFunc_extern (P := Tryz.prog) (f := 68) (e := (ReflectliteValue.methodAny (ReflectliteValue.valueError "reflectlite.Value.Type" 0) (fun t _ _ _ => ReflectliteType.toType t))) Tryz.func68 (by kernel_rfl) (by kernel_rfl) (by kernel_rfl) (by kernel_rfl)
  have h8 := run_callFunc_extern (P := Tryz.prog) (f := 69) (e := (ReflectliteValue.method (ReflectliteValue.valueError "reflectlite.Value.IsNil" 0) ReflectliteValue.isNil)) Tryz.func69 (by kernel_rfl) (by kernel_rfl) (by kernel_rfl) (by kernel_rfl)
  have h27 := run_callFunc_extern (P := Tryz.prog) (f := 237) (e := (ReflectliteType.abiMethod fun t => do pure (.int .u8 (← Rtype.kind t)))) Tryz.func237 (by kernel_rfl) (by kernel_rfl) (by kernel_rfl) (by kernel_rfl)
  have h37 := run_callFunc_extern (P := Tryz.prog) (f := 248) (e := (ReflectliteType.method ReflectliteType.elem)) Tryz.func248 (by kernel_rfl) (by kernel_rfl) (by kernel_rfl) (by kernel_rfl)
  have h38 := run_callFunc_extern (P := Tryz.prog) (f := 249) (e := (ReflectliteType.relation "Implements" ReflectliteType.implements_)) Tryz.func249 (by kernel_rfl) (by kernel_rfl) (by kernel_rfl) (by kernel_rfl)
  have h10 := run_callFunc_extern (P := Tryz.prog) (f := 110) (e := ReflectliteType.typeOf) Tryz.func110 (by kernel_rfl) (by kernel_rfl) (by kernel_rfl) (by kernel_rfl)
  have h35 := run_callFunc_extern (P := Tryz.prog) (f := 246) (e := (ReflectliteType.relation "AssignableTo" ReflectliteType.assignableTo)) Tryz.func246 (by kernel_rfl) (by kernel_rfl) (by kernel_rfl) (by kernel_rfl)
  have h11 := run_callFunc_extern (P := Tryz.prog) (f := 111) (e := (ReflectliteValue.method (ReflectliteValue.valueError "reflectlite.Value.Elem" 0) ReflectliteValue.elem)) Tryz.func111 (by kernel_rfl) (by kernel_rfl) (by kernel_rfl) (by kernel_rfl)
  have h12 := run_callFunc_extern (P := Tryz.prog) (f := 112) (e := ReflectliteValue.set) Tryz.func112 (by kernel_rfl) (by kernel_rfl) (by kernel_rfl) (by kernel_rfl)
  have tO := as_typeOfF
  have mA := as_methodAssignableTo
  have a25 := as_assignableF
  have v25 := as_valueOfF
  have f6 := as_valueOfP
  have f7 := as_typeP
  have mK := as_methodKind
  have mE := as_methodElem
  have mI := as_methodImplements
  have k27 := as_kindP
  have k25 := as_kindF
  have e27 := as_elemP
  have i25 := as_implementsF
  obtain ⟨A1, hA1⟩ : ∃ A : Obj, A = .cells #[.pointer (some ⟨q, 0, none⟩)] 91 := ⟨_, rfl⟩
  obtain ⟨A2, hA2⟩ : ∃ A : Obj, A = .cells #[.pointer (some ⟨7, 91, none⟩), .pointer (some ⟨w.heap.size, 0, none⟩), .int .u64 150] 114 := ⟨_, rfl⟩
  have hlt : 0 < w.heap.size := World.block_lt_of_cell? w _ hg
  have hql : q < w.heap.size := (Array.getElem?_eq_some_iff.1 hq).1
  have n8 := as_isNilP ⟨w.heap.size, 0, none⟩ ⟨q, 0, none⟩ ((w.alloc A1).alloc A2) (by rw [hA1, hA2]; simp)
  have hg2 : ((w.alloc A1).alloc A2).cell? ⟨0, 0, none⟩ = some (.iface 156 (.agg #[.pointer (some ⟨7, 88, none⟩)])) :=
    ((World.grownBy_alloc w A1 none).trans (World.grownBy_alloc (w.alloc A1) A2 none)).cell hg (by simp)
  have el := as_elemVP ⟨w.heap.size, 0, none⟩ ⟨q, 0, none⟩ (((w.alloc A1).alloc A2).alloc A2) (by
    refine ((World.grownBy_alloc (w.alloc A1) A2 none).trans (World.grownBy_alloc _ A2 none)).cell ?_ (by simp)
    rw [hA1]; simp)
  have hq4 : ∀ o, ((((w.alloc A1).alloc A2).alloc A2).alloc o).heap[q]? = some (.cells #[x0, x1] 86 (0, 0)) := fun o =>
    ((((World.grownBy_alloc w A1 none).trans (World.grownBy_alloc _ A2 none)).trans (World.grownBy_alloc _ A2 none)).trans (World.grownBy_alloc _ o none)).block q hql (by simp) |>.trans hq
  have st := as_setF q (w.heap.size + 1 + 1 + 1) a er ((((w.alloc A1).alloc A2).alloc A2).alloc (.cells #[.int .i64 a, .int .i64 er] 86)) (by
      intro j v hj
      have e := heap_alloc_new (((w.alloc A1).alloc A2).alloc A2) (.cells #[.int .i64 a, .int .i64 er] 86)
      rw [World.size_alloc, World.size_alloc, World.size_alloc] at e
      rw [cell_of_row _ _ _ _ _ _ e]
      simpa using hj) (by
      intro j hj
      refine ⟨?_, frozen_of_row _ q _ _ _ (hq4 _)⟩
      rw [cell_of_row _ q _ _ _ _ (hq4 _)]
      simp; omega)
  rw [hA1, hA2] at n8 hg2 el st
  clear hq4 hA1 hA2
  go_enter Tryz.func31, Tryz.ntmps31
  go_wp2
  refine wp_loop_rounds 1 ?_
  rw [rounds_succ]
  go_wp2
  go_ret
  exact ⟨rfl, rfl⟩

theorem told_assert (a er : Int) (w : World) : (Instr.typeAssert (.iface 86 (.agg #[.int .i64 a, .int .i64 er])) 20 88 true).run Tryz.prog w = .ok (.tuple #[.iface 86 (.agg #[.int .i64 a, .int .i64 er]), .bool true]) w := by kernel_rfl
def flt0 : Obj := .cells #[.int .i64 0, .int .i64 0] 86

set_option maxHeartbeats 3200000 in
set_option maxRecDepth 20000 in
theorem gtold_any (a er : Int) (w : World) (hg : w.cell? ⟨0, 0, none⟩ = some (.iface 156 (.agg #[.pointer (some ⟨7, 88, none⟩)]))) :
    Calls Tryz.prog 17 #[.iface 86 (.agg #[.int .i64 a, .int .i64 er])] w fun e w' => e = .returned (.tuple #[.int .i64 a, .int .i64 er]) ∧ w.grownBy w' none := by
  have hA := gAs_fault a er w.heap.size (.int .i64 0) (.int .i64 0) (w.alloc flt0) ((World.grownBy_alloc w flt0 none).cell hg (by simp)) (heap_alloc_new w _)
  obtain ⟨W, hW⟩ : ∃ W, W = (((((w.alloc flt0).alloc (.cells #[.pointer (some ⟨w.heap.size, 0, none⟩)] 91)).alloc (VBx (w.alloc flt0).heap.size)).alloc (VBx (w.alloc flt0).heap.size)).alloc (.cells #[.int .i64 a, .int .i64 er] 86)) := ⟨_, rfl⟩
  rw [← hW] at hA
  have hgW : (w.alloc flt0).grownBy W none := by rw [hW]; exact ((((World.grownBy_alloc _ _ none).trans (World.grownBy_alloc _ _ none)).trans (World.grownBy_alloc _ _ none)).trans (World.grownBy_alloc _ _ none))
  have hq : W.heap[w.heap.size]? = some (.cells #[.int .i64 0, .int .i64 0] 86 (0, 0)) := (hgW.block w.heap.size (by simp) (by simp)).trans (heap_alloc_new w _)
  have hq2 : (W.setCells w.heap.size 0 [.int .i64 a, .int .i64 er]).heap[w.heap.size]? = some (.cells #[.int .i64 a, .int .i64 er] 86 (0, 0)) := heap_setCell_same _ _ 1 _ _ _ (heap_setCell_same _ _ 0 _ _ _ hq)
  have hgS : w.grownBy (W.setCells w.heap.size 0 [.int .i64 a, .int .i64 er]) none := ((World.grownBy_alloc w flt0 none).trans hgW).andThen (World.grownBy.trans (grown_set W ⟨w.heap.size, 0, none⟩ _) (grown_set _ ⟨w.heap.size, 1, none⟩ _)) (fun j e => .inl (by cases e; exact Nat.le_refl _))
  generalize W.setCells w.heap.size 0 [.int .i64 a, .int .i64 er] = V at hA hq2 hgS
  have z0 : V.cell? ⟨w.heap.size, 0, none⟩ = some (.int .i64 a) := by rw [cell_of_row V _ 0 _ _ _ hq2]; simp
  have z1 : V.cell? ⟨w.heap.size, 1, none⟩ = some (.int .i64 er) := by rw [cell_of_row V _ 1 _ _ _ hq2]; simp
  clear hW hq hgW
  have hta := told_assert a er
  go_enter Tryz.func17, Tryz.ntmps17
  go_wp2_with (first | (go_at_call 31; refine hA.mono ?_; rintro e w9 ⟨rfl, hw9⟩; rw [hw9]; clear hw9))
  go_quiet (fail)
  go_wp2
  go_ret2
  exact ⟨rfl, ⟨hgS.os, hgS.tape, hgS.output, hgS.size, hgS.block⟩⟩

end Go.Proofs.YtachmiajldeakaaGreatDoor

/- gram's deferred closure, in its two modes. -/
namespace Go.Proofs.YtachmiajldeakaaGreatDoor
open Go.RowKit Go.Maps Go.WideMaps

theorem nil_nil (w : World) : (binOp BinOp.neq 20 .nilIface .nilIface).run Tryz.prog w = .ok (.bool false) w := by kernel_rfl
theorem ne_nil (t : TypeId) (v : Value) (w : World) : (binOp BinOp.neq 20 (.iface t v) .nilIface).run Tryz.prog w = .ok (.bool true) w := by kernel_rfl

set_option maxHeartbeats 1600000 in
set_option maxRecDepth 20000 in
theorem gcatch_idle (p q : Addr) (w : World) :
    CallsD Tryz.prog 16 #[.pointer (some p), .pointer (some q)] .returning w fun e u' w' => e = .returned (.tuple #[]) ∧ u' = .returning ∧ w' = w := by
  refine callsD_of_wpS Tryz.func16 rfl fun c₀ cs hu => ?_
  have hq := nil_nil
  apply wpS_seq
  apply wpS_region
  simp [wpOpsS, go_sem, recoverD, hu, Tryz.ntmps16, Exit.thenS]
  apply wpS_seq
  apply wpS_region
  simp [wpOpsS, go_sem, hq, Exit.thenS]
  refine wpS_cond (t := false) (by simp [Act.eval]) ?_
  simp only [Bool.false_eq_true, if_false]
  refine wpS_of_wp (wp_skip ?_)
  cases c₀
  simp_all [bodyPostS, results, Tryz.results16]

set_option maxHeartbeats 1600000 in
set_option maxRecDepth 20000 in
theorem gcatch_panics (a er : Int) (r1 r2 : Nat) (x y : Value) (w : World) (hg : w.cell? ⟨0, 0, none⟩ = some (.iface 156 (.agg #[.pointer (some ⟨7, 88, none⟩)]))) (older : List PanicEntry) (hne : ¬ r1 = r2)
    (h1 : w.heap[r1]? = some (.cells #[x] 3 (0, 0))) (h2 : w.heap[r2]? = some (.cells #[y] 33 (0, 0))) :
    CallsD Tryz.prog 16 #[.pointer (some ⟨r1, 0, none⟩), .pointer (some ⟨r2, 0, none⟩)] (.panicking ({ v := .iface 86 (.agg #[.int .i64 a, .int .i64 er]), recovered := false } :: older)) w fun e u' w' =>
      e = .returned (.tuple #[]) ∧ u' = .panicking ({ v := .iface 86 (.agg #[.int .i64 a, .int .i64 er]), recovered := true } :: older) ∧ ∃ w1, w.grownBy w1 none ∧ w' = (w1.setCell ⟨r1, 0, none⟩ (.int .i64 a)).setCell ⟨r2, 0, none⟩ (.int .i64 er) := by
  refine callsD_of_wpS Tryz.func16 rfl fun c₀ cs hu => ?_
  have hq := ne_nil 86 (.agg #[.int .i64 a, .int .i64 er])
  have hT := gtold_any a er w hg
  apply wpS_seq
  apply wpS_region
  simp [wpOpsS, go_sem, recoverD, hu, Tryz.ntmps16, Exit.thenS]
  apply wpS_seq
  apply wpS_region
  simp [wpOpsS, go_sem, hq, Exit.thenS]
  refine wpS_cond (t := true) (by simp [Act.eval]) ?_
  simp only [if_true]
  refine wpS_of_wp ?_
  go_wp2_with (first | (go_at_call 17; refine hT.mono ?_; rintro e w1 ⟨rfl, hg1⟩; refine Hid.out ?_))
  have b1 := (hg1.block r1 (Array.getElem?_eq_some_iff.1 h1).1 (by simp)).trans h1
  have b2 := (hg1.block r2 (Array.getElem?_eq_some_iff.1 h2).1 (by simp)).trans h2
  have z1 : w1.cell? ⟨r1, 0, none⟩ = some x := by rw [cell_of_row w1 r1 0 _ _ _ b1]; simp
  have z2 : w1.cell? ⟨r2, 0, none⟩ = some y := by rw [cell_of_row w1 r2 0 _ _ _ b2]; simp
  have f1 := frozen_of_row w1 r1 0 _ _ b1
  have f2 := frozen_of_row w1 r2 0 _ _ b2
  have HG := Lib.hid hg1
  clear hg1 b1 b2 h1 h2 hT
  refine Lib.hid ?_
  go_wp2
  cases c₀
  simp_all [bodyPostS, results, Tryz.results16]
  exact ⟨w1, HG.out, rfl⟩

end Go.Proofs.YtachmiajldeakaaGreatDoor

/- gram's Parse. -/
namespace Go.Proofs.YtachmiajldeakaaGreatDoor
open Go.RowKit Go.Maps Go.WideMaps

theorem toks_end : ∀ (f : Nat) (l : List UInt8) (a room : Nat) (T : List Lex.Tk), Lex.toks f l a room = .ok T → ∃ init x, T = init ++ [x] ∧ x.kind = 5 ∧ x.text = [] ∧ T.length ≤ room
  | 0, _, _, _, _, h => by unfold Lex.toks at h; cases h
  | f + 1, l, a, room, T, h => by
    unfold Lex.toks at h
    cases ht : Lex.tokAt (l.drop (Lex.skp false l)) with
    | bad e => rw [ht] at h; cases h
    | tok kd n t len =>
      rw [ht] at h
      simp only at h
      by_cases hr : room = 0
      · rw [if_pos hr] at h; cases h
      rw [if_neg hr] at h
      by_cases hk : kd = 5
      · rw [if_pos hk] at h
        cases h
        exact ⟨[], _, rfl, rfl, rfl, by simp; omega⟩
      rw [if_neg hk] at h
      cases hq : Lex.toks f ((l.drop (Lex.skp false l)).drop len) (a + Lex.skp false l + len) (room - 1) with
      | err p e => rw [hq] at h; cases h
      | ok T2 =>
        rw [hq] at h
        cases h
        obtain ⟨init, x, e, h1, h2, h3⟩ := toks_end f _ _ _ T2 hq
        refine ⟨_ :: init, x, by rw [e]; rfl, h1, h2, ?_⟩
        simp only [List.length_cons]
        omega
theorem tokens_end {l : List UInt8} {T : List Lex.Tk} (h : Lex.tokens l = .ok T) : T.length ≤ 20000 ∧ 0 < T.length ∧ ∀ i, i < T.length → ((Gram.tk T i).kind ≠ 5 ∨ (Gram.tk T i).text ≠ []) → i + 1 < T.length := by
  unfold Lex.tokens at h
  split at h
  · cases h
  obtain ⟨init, x, rfl, h1, h2, h3⟩ := toks_end _ _ _ _ _ h
  refine ⟨h3, by simp, fun i hi hk => ?_⟩
  rcases Nat.lt_or_ge i init.length with hl | hl
  · simp; omega
  · exfalso
    have e : i = init.length := by simp at hi; omega
    subst e
    have e2 : Gram.tk (init ++ [x]) init.length = x := by unfold Gram.tk; simp [List.getD]
    rw [e2, h1, h2] at hk
    rcases hk with hk | hk <;> exact hk rfl

/-- what Parse tells -/
def psPost (w : World) (r : Gram.Res) (e : Ending) (w' : World) : Prop :=
  match r with
  | .ok l => ∃ v, e = .returned (.tuple #[.agg #[v], .int .i64 0, .int .i64 0]) ∧ RepC w' w.heap.size [] (.l 45 6 (l.map nodeD)) v ∧ w.grownBy w' none
  | .bad a er => e = .returned (.tuple #[.agg #[.slice none 0 0], .int .i64 a, .int .i64 er]) ∧ w.grownBy w' none
  | .fuel => False

def rI : Obj := .cells #[.int .i64 0] 3
def rE : Obj := .cells #[.int .i64 0] 33

set_option maxHeartbeats 3200000 in
set_option maxRecDepth 20000 in
theorem gparse_any (s : ByteArray) (w : World) (hl : LaidR w) (hg : w.cell? ⟨0, 0, none⟩ = some (.iface 156 (.agg #[.pointer (some ⟨7, 88, none⟩)])))
    (hf : ∀ a, Gram.parse s.data.toList = a → a ≠ .fuel) :
    Calls Tryz.prog 7 #[.string s] w fun e w' => psPost w (Gram.parse s.data.toList) e w' := by
  have hmf := makeFunc_run
  obtain ⟨W0, hW0⟩ : ∃ W, W = ((w.alloc prg0).alloc rI).alloc rE := ⟨_, rfl⟩
  have hgW : w.grownBy W0 none := by rw [hW0]; exact galloc (galloc (World.grownBy_alloc w _ none) _) _
  have hT := tokens_any s W0 (hl.on hgW (by simp))
  rw [hW0] at hT
  cases hr : Lex.tokens s.data.toList with
  | err p x =>
    rw [hr] at hT
    simp only [tkRel] at hT
    have hR : Gram.parse s.data.toList = .bad (p : Int) x := by unfold Gram.parse; rw [hr]
    rw [hR]
    go_enter_defers Tryz.func7, Tryz.ntmps7
    go_wp2_with (first | (go_at_call 15; refine hT.mono ?_; rintro e w1 ⟨v, a, er, rfl, ⟨rfl, rfl, rfl, hx⟩, hg1⟩; refine Hid.out ?_))
    have q0 : W0.heap[w.heap.size]? = some prg0 := by rw [hW0]; exact (((World.grownBy_alloc (w.alloc prg0) rI none).trans (World.grownBy_alloc _ rE none)).block w.heap.size (by simp) (by simp)).trans (heap_alloc_new w prg0)
    have q1 : W0.heap[w.heap.size + 1]? = some rI := by
      have e := heap_alloc2_old (w.alloc prg0) rI rE
      rw [World.size_alloc] at e
      rw [hW0]; exact e
    have q2 : W0.heap[w.heap.size + 1 + 1]? = some rE := by
      have e := heap_alloc2_new (w.alloc prg0) rI rE
      rw [World.size_alloc] at e
      rw [hW0]; exact e
    rw [← hW0] at hg1
    have hs0 : W0.heap.size = w.heap.size + 1 + 1 + 1 := by rw [hW0]; simp
    have b0 := (hg1.block w.heap.size (by omega) (by simp)).trans q0
    have b1 := (hg1.block (w.heap.size + 1) (by omega) (by simp)).trans q1
    have b2 := (hg1.block (w.heap.size + 1 + 1) (by omega) (by simp)).trans q2
    have c0 : w1.cell? ⟨w.heap.size, 0, none⟩ = some (.slice none 0 0) := by rw [cell_of_row w1 _ 0 _ _ _ b0]; simp
    have c1 : w1.cell? ⟨w.heap.size + 1, 0, none⟩ = some (.int .i64 0) := by rw [cell_of_row w1 _ 0 _ _ _ b1]; simp
    have c2 : w1.cell? ⟨w.heap.size + 1 + 1, 0, none⟩ = some (.int .i64 0) := by rw [cell_of_row w1 _ 0 _ _ _ b2]; simp
    have d0 := frozen_of_row w1 _ 0 _ _ b0
    have d1 := frozen_of_row w1 _ 0 _ _ b1
    have d2 := frozen_of_row w1 _ 0 _ _ b2
    have HG := Lib.hid (hgW.trans hg1)
    have hx2 : (er != 0) = true := by simp [hx]
    clear q0 q1 q2 b0 b1 b2 hg1 hT
    refine Lib.hid ?_
    go_wp2
    have hG : w.grownBy (((w1.setCell ⟨w.heap.size, 0, none⟩ (.slice none 0 0)).setCell ⟨w.heap.size + 1, 0, none⟩ (.int .i64 (p : Int))).setCell ⟨w.heap.size + 1 + 1, 0, none⟩ (.int .i64 er)) none := gset (gset (gset HG.out (.inl (Nat.le_refl _)) _) (.inl (by simp)) _) (.inl (by simp; omega)) _
    have HG2 := Lib.hid hG
    clear hG
    simp [bodyPostD, Leaves, results, Tryz.results7, go_sem, c0, c1, c2]
    exact ⟨rfl, HG2.out⟩
  | ok T =>
    rw [hr] at hT
    simp only [tkRel] at hT
    obtain ⟨hm, h0, hlast⟩ := tokens_end hr
    have hRb : ∀ a er, Gram.program T (20 * T.length + 100) = .bad a er → Gram.parse s.data.toList = .bad a er := by intro a er h; unfold Gram.parse; rw [hr]; simp only [h]
    have hRo : ∀ l j, Gram.program T (20 * T.length + 100) = .ok l j → Gram.parse s.data.toList = .ok l := by intro l j h; unfold Gram.parse; rw [hr]; simp only [h]
    have hPf : (Gram.program T (20 * T.length + 100)).isFuel = false := by
      have h9 := hf _ rfl
      cases hq : Gram.program T (20 * T.length + 100) with
      | fuel => exact absurd (by unfold Gram.parse; rw [hr]; simp only [hq]) h9
      | bad => rfl
      | ok => rfl
    obtain ⟨R, hR2⟩ : ∃ R, R = Gram.parse s.data.toList := ⟨_, rfl⟩
    rw [← hR2] at hRb hRo ⊢
    clear hR2 hf
    have HR := Lib.hid (And.intro hRb hRo)
    clear hRb hRo
    have q0 : W0.heap[w.heap.size]? = some prg0 := by rw [hW0]; exact (((World.grownBy_alloc (w.alloc prg0) rI none).trans (World.grownBy_alloc _ rE none)).block w.heap.size (by simp) (by simp)).trans (heap_alloc_new w prg0)
    have q1 : W0.heap[w.heap.size + 1]? = some rI := by
      have e := heap_alloc2_old (w.alloc prg0) rI rE
      rw [World.size_alloc] at e
      rw [hW0]; exact e
    have q2 : W0.heap[w.heap.size + 1 + 1]? = some rE := by
      have e := heap_alloc2_new (w.alloc prg0) rI rE
      rw [World.size_alloc] at e
      rw [hW0]; exact e
    have hs0 : W0.heap.size = w.heap.size + 1 + 1 + 1 := by rw [hW0]; simp
    go_enter_defers Tryz.func7, Tryz.ntmps7
    go_wp2_with (first | (go_at_call 15; refine hT.mono ?_; rintro e w1 ⟨v, a, er, rfl, ⟨rfl, rfl, hown⟩, hg1⟩; refine Hid.out ?_))
    rw [← hW0] at hg1 hown
    obtain ⟨g, cap, rfl⟩ : ∃ g cap, v = .slice (some ⟨g, 0, none⟩) T.length cap := by
      rcases hown.2 with ⟨_, h9⟩ | ⟨g, cap, cur, e, _⟩
      · omega
      · exact ⟨g, cap, e⟩
    have hnp := gnewParser_any g cap T w1 (hown.mono (Nat.zero_le _)) hm h0 hlast
    have hs1 := hg1.size
    refine Lib.hid ?_
    go_wp2_with (first | (go_at_call 18; refine hnp.mono ?_; rintro e w2 ⟨rfl, ⟨rv, hP2⟩, hg2⟩; refine Hid.out ?_))
    have hpg := gprogram_any w1.heap.size g cap rv T (20 * T.length + 100) w2 hP2 hPf
    have hgA : W0.grownBy w2 none := hg1.trans hg2
    cases hq : Gram.program T (20 * T.length + 100) with
    | fuel => rw [hq] at hPf; cases hPf
    | bad a er =>
      rw [hq] at hpg
      simp only [pgPost] at hpg
      have HRR : Hid (R = .bad a er) := Lib.hid (HR.out.1 a er hq)
      clear HR hq hPf
      refine Lib.hid ?_
      go_wp2_with (first | (go_at_call 19; refine hpg.mono ?_; rintro e w3 ⟨rfl, hg3⟩; refine Hid.out ?_))
      have hgB : W0.grownBy w3 none := hgA.andThen hg3 (fun j e => .inl (by cases e; exact hs1))
      have b0 := (hgB.block w.heap.size (by omega) (by simp)).trans q0
      have b1 := (hgB.block (w.heap.size + 1) (by omega) (by simp)).trans q1
      have b2 := (hgB.block (w.heap.size + 1 + 1) (by omega) (by simp)).trans q2
      have hgC := hgW.trans hgB
      refine Lib.hid ?_
      go_wp2
      refine leaves_cons (f := 16) (args := #[.pointer (some ⟨w.heap.size + 1, 0, none⟩), .pointer (some ⟨w.heap.size + 1 + 1, 0, none⟩)]) (by simp) (by simp [go_sem]) ?_
      refine (gcatch_panics a er (w.heap.size + 1) (w.heap.size + 1 + 1) (.int .i64 0) (.int .i64 0) w3 (hgC.cell hg (by simp)) [] (by omega) b1 b2).mono ?_
      rintro e u' w' ⟨rfl, rfl, w4, hg4, rfl⟩
      have c0 : w4.cell? ⟨w.heap.size, 0, none⟩ = some (.slice none 0 0) := by rw [cell_of_row w4 _ 0 _ _ _ ((hg4.block w.heap.size (by have := hgB.size; omega) (by simp)).trans b0)]; simp
      have c1 : w4.cell? ⟨w.heap.size + 1, 0, none⟩ = some (.int .i64 0) := by rw [cell_of_row w4 _ 0 _ _ _ ((hg4.block (w.heap.size + 1) (by have := hgB.size; omega) (by simp)).trans b1)]; simp
      have c2 : w4.cell? ⟨w.heap.size + 1 + 1, 0, none⟩ = some (.int .i64 0) := by rw [cell_of_row w4 _ 0 _ _ _ ((hg4.block (w.heap.size + 1 + 1) (by have := hgB.size; omega) (by simp)).trans b2)]; simp
      have HG2 : Hid (w.grownBy ((w4.setCell ⟨w.heap.size + 1, 0, none⟩ (.int .i64 a)).setCell ⟨w.heap.size + 1 + 1, 0, none⟩ (.int .i64 er)) none) := Lib.hid (gset (gset (hgC.trans hg4) (.inl (by show w.heap.size ≤ w.heap.size + 1; omega)) _) (.inl (by show w.heap.size ≤ w.heap.size + 1 + 1; omega)) _)
      clear hgC hgB hgA hg4 b0 b1 b2 q0 q1 q2
      simp [Leaves, settle, results, Tryz.results7, go_sem, c0, c1, c2]
      rw [HRR.out]
      exact ⟨rfl, HG2.out⟩
    | ok l j =>
      rw [hq] at hpg
      simp only [pgPost] at hpg
      have HRR : Hid (R = .ok l) := Lib.hid (HR.out.2 l j hq)
      clear HR hq hPf
      refine Lib.hid ?_
      go_wp2_with (first | (go_at_call 19; refine hpg.mono ?_; rintro e w3 ⟨v3, rfl, hk3, hP3, hg3⟩; obtain ⟨va, vn, vc, rfl⟩ := hk3.form; refine Hid.out ?_))
      have hgB : W0.grownBy w3 none := hgA.andThen hg3 (fun j e => .inl (by cases e; exact hs1))
      have b0 := (hgB.block w.heap.size (by omega) (by simp)).trans q0
      have b1 := (hgB.block (w.heap.size + 1) (by omega) (by simp)).trans q1
      have b2 := (hgB.block (w.heap.size + 1 + 1) (by omega) (by simp)).trans q2
      have c0 : w3.cell? ⟨w.heap.size, 0, none⟩ = some (.slice none 0 0) := by rw [cell_of_row w3 _ 0 _ _ _ b0]; simp
      have c1 : w3.cell? ⟨w.heap.size + 1, 0, none⟩ = some (.int .i64 0) := by rw [cell_of_row w3 _ 0 _ _ _ b1]; simp
      have c2 : w3.cell? ⟨w.heap.size + 1 + 1, 0, none⟩ = some (.int .i64 0) := by rw [cell_of_row w3 _ 0 _ _ _ b2]; simp
      have d0 := frozen_of_row w3 _ 0 _ _ b0
      have d1 := frozen_of_row w3 _ 0 _ _ b1
      have d2 := frozen_of_row w3 _ 0 _ _ b2
      have hs2 := hg2.size
      have hG3 : w3.grownBy (((w3.setCell ⟨w.heap.size, 0, none⟩ (.slice va vn vc)).setCell ⟨w.heap.size + 1, 0, none⟩ (.int .i64 0)).setCell ⟨w.heap.size + 1 + 1, 0, none⟩ (.int .i64 0)) none → True := fun _ => trivial
      have hk4 : RepC (((w3.setCell ⟨w.heap.size, 0, none⟩ (.slice va vn vc)).setCell ⟨w.heap.size + 1, 0, none⟩ (.int .i64 0)).setCell ⟨w.heap.size + 1 + 1, 0, none⟩ (.int .i64 0)) w2.heap.size [] (.l 45 6 (l.map nodeD)) (.slice va vn vc) :=
        RepC.kept (grown_set _ ⟨w.heap.size + 1 + 1, 0, none⟩ _) (fun k e => by cases e; show w.heap.size + 1 + 1 < w2.heap.size; omega) (RepC.kept (grown_set _ ⟨w.heap.size + 1, 0, none⟩ _) (fun k e => by cases e; show w.heap.size + 1 < w2.heap.size; omega) (RepC.kept (grown_set _ ⟨w.heap.size, 0, none⟩ _) (fun k e => by cases e; show w.heap.size < w2.heap.size; omega) hk3.rep))
      have HK4 := Lib.hid (RepC.mono (B' := w.heap.size) (by omega) hk4)
      have HG2 : Hid (w.grownBy (((w3.setCell ⟨w.heap.size, 0, none⟩ (.slice va vn vc)).setCell ⟨w.heap.size + 1, 0, none⟩ (.int .i64 0)).setCell ⟨w.heap.size + 1 + 1, 0, none⟩ (.int .i64 0)) none) := Lib.hid (gset (gset (gset (hgW.trans hgB) (.inl (Nat.le_refl _)) _) (.inl (by show w.heap.size ≤ w.heap.size + 1; omega)) _) (.inl (by show w.heap.size ≤ w.heap.size + 1 + 1; omega)) _)
      clear hG3 hk4 hk3 hgB hgA b0 b1 b2 q0 q1 q2
      refine Lib.hid ?_
      go_wp2
      refine leaves_cons (f := 16) (args := #[.pointer (some ⟨w.heap.size + 1, 0, none⟩), .pointer (some ⟨w.heap.size + 1 + 1, 0, none⟩)]) (by simp) (by simp [go_sem]) ?_
      refine (gcatch_idle ⟨w.heap.size + 1, 0, none⟩ ⟨w.heap.size + 1 + 1, 0, none⟩ _).mono ?_
      rintro e u' w' ⟨rfl, rfl, rfl⟩
      simp [Leaves, settle, results, Tryz.results7, go_sem, c0, c1, c2]
      rw [HRR.out]
      exact ⟨_, rfl, HK4.out, HG2.out⟩

end Go.Proofs.YtachmiajldeakaaGreatDoor
