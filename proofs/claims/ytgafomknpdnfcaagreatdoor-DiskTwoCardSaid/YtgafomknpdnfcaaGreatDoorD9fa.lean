/- errors.As of a Fail, at a target of its own type. -/
import Derived.Test.YtgafomknpdnfcaaGreatDoorD9d
namespace Go.Proofs.YtgafomknpdnfcaaGreatDoor
open Go.RowKit Go.Extern.Stop Go.Stop Go.Extern

def rtV (t : TypeId) : Value := .iface 115 (.agg #[.pointer (some ⟨6, t, none⟩)])
def asVal (a : Addr) : Value := .agg #[.pointer (some ⟨6, 101, none⟩), .pointer (some a), .int .u64 150]
def asSrc (a : Addr) : Value := .agg #[.pointer (some ⟨6, 87, none⟩), .pointer (some a), .int .u64 150]
def asDst (a : Addr) : Value := .agg #[.pointer (some ⟨6, 87, none⟩), .pointer (some a), .int .u64 406]
abbrev kindX : Array Value → Sem Value := ReflectliteType.abiMethod fun t => do pure (.int .u8 (← Rtype.kind t))
abbrev nilX : Array Value → Sem Value := ReflectliteValue.method (ReflectliteValue.valueError "reflectlite.Value.IsNil" 0) ReflectliteValue.isNil
abbrev elemX : Array Value → Sem Value := ReflectliteValue.method (ReflectliteValue.valueError "reflectlite.Value.Elem" 0) ReflectliteValue.elem
theorem as_of (t : Addr) (w : World) : (ReflectliteValue.unpack (.iface 101 (.pointer (some t)))).run Tryz.prog w = .ok (asVal ⟨w.heap.size, 0, none⟩) (w.alloc (.cells #[.pointer (some t)] 101)) := by kernel_rfl
theorem as_src (e : Addr) (w : World) : (ReflectliteValue.unpack (.iface 87 (.pointer (some e)))).run Tryz.prog w = .ok (asSrc ⟨w.heap.size, 0, none⟩) (w.alloc (.cells #[.pointer (some e)] 87)) := by kernel_rfl
theorem as_type (a : Addr) (w : World) : (ReflectliteValue.methodAny (ReflectliteValue.valueError "reflectlite.Value.Type" 0) (fun t _ _ _ => ReflectliteType.toType t) #[asVal a]).run Tryz.prog w = .ok (rtV 101) w := by kernel_rfl
theorem as_mKind (v : Value) (w : World) : (Go.method 303 115 (.agg #[v]) "Kind").run Tryz.prog w = .ok (122, v) w := by kernel_rfl
theorem as_mElem (v : Value) (w : World) : (Go.method 303 115 v "Elem").run Tryz.prog w = .ok (130, v) w := by kernel_rfl
theorem as_mImp (v : Value) (w : World) : (Go.method 303 115 v "Implements").run Tryz.prog w = .ok (131, v) w := by kernel_rfl
theorem as_mTo (v : Value) (w : World) : (Go.method 303 115 v "AssignableTo").run Tryz.prog w = .ok (128, v) w := by kernel_rfl
theorem as_kind2 (w : World) : (kindX #[.pointer (some ⟨6, 101, none⟩)]).run Tryz.prog w = .ok (.int .u8 22) w := by kernel_rfl
theorem as_kind1 (w : World) : (kindX #[.pointer (some ⟨6, 87, none⟩)]).run Tryz.prog w = .ok (.int .u8 22) w := by kernel_rfl
theorem as_elem (w : World) : (ReflectliteType.method ReflectliteType.elem #[.agg #[.pointer (some ⟨6, 101, none⟩)]]).run Tryz.prog w = .ok (rtV 87) w := by kernel_rfl
theorem as_imp (w : World) : (ReflectliteType.relation "Implements" ReflectliteType.implements_ #[.agg #[.pointer (some ⟨6, 87, none⟩)], rtV 26]).run Tryz.prog w = .ok (.bool true) w := by kernel_rfl
theorem as_typeOf (v : Value) (w : World) : (ReflectliteType.typeOf #[.iface 87 v]).run Tryz.prog w = .ok (rtV 87) w := by kernel_rfl
theorem as_to (w : World) : (ReflectliteType.relation "AssignableTo" ReflectliteType.assignableTo #[.agg #[.pointer (some ⟨6, 87, none⟩)], rtV 87]).run Tryz.prog w = .ok (.bool true) w := by kernel_rfl
theorem as_p2 (a : Addr) (w : World) : (ReflectliteValue.parts (asVal a)).run Tryz.prog w = .ok (some (101, a, 150)) w := by kernel_rfl
theorem as_p1 (a : Addr) (w : World) : (ReflectliteValue.parts (asSrc a)).run Tryz.prog w = .ok (some (87, a, 150)) w := by kernel_rfl
theorem as_p3 (a : Addr) (w : World) : (ReflectliteValue.parts (asDst a)).run Tryz.prog w = .ok (some (87, a, 406)) w := by kernel_rfl
theorem as_el (w : World) : (Rtype.elem? 101).run Tryz.prog w = .ok (some 87) w := by kernel_rfl
theorem as_mk (p : Addr) (w : World) : (ReflectliteValue.mk 87 p ReflectliteValue.flagAddr).run Tryz.prog w = .ok (asDst p) w := by kernel_rfl
theorem as_dir (w : World) : (Rtype.directlyAssignable 87 87).run Tryz.prog w = .ok true w := by kernel_rfl
theorem as_isNil (a p : Addr) (W : World) (ha : W.cell? a = some (.pointer (some p))) : (nilX #[asVal a]).run Tryz.prog W = .ok (.bool false) W := by
  have h := as_p2 a W
  unfold nilX ReflectliteValue.method
  delta ReflectliteValue.method.match_2
  simp [Array.getLit, Sem.run_bind, h, Result.andThen, ReflectliteValue.isNil, loadVar, isAgg, underlying, Tryz.underlying101, ha]
theorem as_elV (a p : Addr) (W : World) (ha : W.cell? a = some (.pointer (some p))) : (elemX #[asVal a]).run Tryz.prog W = .ok (asDst p) W := by
  have h := as_p2 a W
  unfold elemX ReflectliteValue.method
  delta ReflectliteValue.method.match_2
  simp [Array.getLit, Sem.run_bind, h, Result.andThen, ReflectliteValue.elem, loadVar, isAgg, underlying, Tryz.underlying101, ha, as_el, as_mk]
theorem as_set (ta b e : Addr) (old : Value) (W : World) (hb : W.cell? b = some (.pointer (some e))) (ht : W.cell? ta = some old) (hf : W.frozen? ta = false) :
    (ReflectliteValue.set #[asDst ta, asSrc b]).run Tryz.prog W = .ok (.tuple #[]) (W.setCell ta (.pointer (some e))) := by
  have h1 := as_p3 ta W
  have h2 := as_p1 b W
  unfold ReflectliteValue.set
  delta ReflectliteValue.set.match_3
  simp [Array.getLit, Sem.run_bind, h1, h2, Result.andThen, ReflectliteValue.flagAddr, loadVar, isAgg, underlying, Tryz.underlying87, hb, as_dir, storeVar, Value.cells, storeCells, Addr.add]
  rw [run_store Tryz.prog W ta _ _ (by rfl)]
  simp [ht, hf]
end Go.Proofs.YtgafomknpdnfcaaGreatDoor

/- errors.As of a Fail. -/
namespace Go.Proofs.YtgafomknpdnfcaaGreatDoor
open Go.RowKit Go.Extern.Stop Go.Stop Go.Extern

set_option maxHeartbeats 4000000 in
theorem as_hit (e t : Addr) (old : Value) (w : World) (hg : w.cell? ⟨5, 0, none⟩ = some (rtV 26)) (ht0 : w.cell? t = some old) (hf0 : w.frozen? t = false) :
    Calls Tryz.prog 54 #[.iface 87 (.pointer (some e)), .iface 101 (.pointer (some t))] w fun ev w' => ev = .returned (.bool true) ∧ ∃ W, Below w.heap.size w W ∧ w' = W.setCell t (.pointer (some e)) := by
  have h6 := @run_callFunc_extern Tryz.prog 78 _ (fun args => ReflectliteValue.unpack (args.getD 0 (.tuple #[]))) Tryz.func78 (by kernel_rfl) (by kernel_rfl) (by kernel_rfl) (by kernel_rfl)
  have h7 := @run_callFunc_extern Tryz.prog 79 _ (ReflectliteValue.methodAny (ReflectliteValue.valueError "reflectlite.Value.Type" 0) (fun t _ _ _ => ReflectliteType.toType t)) Tryz.func79 (by kernel_rfl) (by kernel_rfl) (by kernel_rfl) (by kernel_rfl)
  have h8 := @run_callFunc_extern Tryz.prog 80 _ (nilX) Tryz.func80 (by kernel_rfl) (by kernel_rfl) (by kernel_rfl) (by kernel_rfl)
  have h9 := @run_callFunc_extern Tryz.prog 122 _ (kindX) Tryz.func122 (by kernel_rfl) (by kernel_rfl) (by kernel_rfl) (by kernel_rfl)
  have h10 := @run_callFunc_extern Tryz.prog 130 _ (ReflectliteType.method ReflectliteType.elem) Tryz.func130 (by kernel_rfl) (by kernel_rfl) (by kernel_rfl) (by kernel_rfl)
  have h11 := @run_callFunc_extern Tryz.prog 131 _ (ReflectliteType.relation "Implements" ReflectliteType.implements_) Tryz.func131 (by kernel_rfl) (by kernel_rfl) (by kernel_rfl) (by kernel_rfl)
  have h12 := @run_callFunc_extern Tryz.prog 42 _ (ReflectliteType.typeOf) Tryz.func42 (by kernel_rfl) (by kernel_rfl) (by kernel_rfl) (by kernel_rfl)
  have h13 := @run_callFunc_extern Tryz.prog 128 _ (ReflectliteType.relation "AssignableTo" ReflectliteType.assignableTo) Tryz.func128 (by kernel_rfl) (by kernel_rfl) (by kernel_rfl) (by kernel_rfl)
  have h14 := @run_callFunc_extern Tryz.prog 87 _ (elemX) Tryz.func87 (by kernel_rfl) (by kernel_rfl) (by kernel_rfl) (by kernel_rfl)
  have h15 := @run_callFunc_extern Tryz.prog 88 _ (ReflectliteValue.set) Tryz.func88 (by kernel_rfl) (by kernel_rfl) (by kernel_rfl) (by kernel_rfl)
  have f0 := as_of
  have f1 := as_src
  have f2 := as_type
  have f3 := as_mKind
  have f4 := as_mElem
  have f5 := as_mImp
  have f6 := as_mTo
  have f7 := as_kind2
  have f8 := as_kind1
  have f9 := as_elem
  have f10 := as_imp
  have f11 := as_typeOf
  have f12 := as_to
  have hlt : 5 < w.heap.size := World.block_lt_of_cell? w _ hg
  have htl : t.block < w.heap.size := World.block_lt_of_cell? w _ ht0
  have hb4 : Below w.heap.size w ((((w.alloc (.cells #[.pointer (some t)] 101)).alloc (.cells #[.pointer (some ⟨6, 101, none⟩), .pointer (some ⟨w.heap.size, 0, none⟩), .int .u64 150] 133)).alloc (.cells #[.pointer (some ⟨6, 101, none⟩), .pointer (some ⟨w.heap.size, 0, none⟩), .int .u64 150] 133)).alloc (.cells #[.pointer (some e)] 87)) := (((((Below.refl _ w).alloc (Nat.le_refl _) _).alloc (by simp) _).alloc (by simp; omega) _).alloc (by simp; omega) _)
  have hg2 : ((w.alloc (.cells #[.pointer (some t)] 101)).alloc (.cells #[.pointer (some ⟨6, 101, none⟩), .pointer (some ⟨w.heap.size, 0, none⟩), .int .u64 150] 133)).cell? ⟨5, 0, none⟩ = some (rtV 26) := by
    rw [World.cell?_alloc_lt _ _ ⟨_, 0, none⟩ (by simp; omega), World.cell?_alloc_lt _ _ ⟨_, 0, none⟩ hlt]; exact hg
  have n8 := as_isNil ⟨w.heap.size, 0, none⟩ t ((w.alloc (.cells #[.pointer (some t)] 101)).alloc (.cells #[.pointer (some ⟨6, 101, none⟩), .pointer (some ⟨w.heap.size, 0, none⟩), .int .u64 150] 133)) (by simp)
  have el := as_elV ⟨w.heap.size, 0, none⟩ t (((w.alloc (.cells #[.pointer (some t)] 101)).alloc (.cells #[.pointer (some ⟨6, 101, none⟩), .pointer (some ⟨w.heap.size, 0, none⟩), .int .u64 150] 133)).alloc (.cells #[.pointer (some ⟨6, 101, none⟩), .pointer (some ⟨w.heap.size, 0, none⟩), .int .u64 150] 133)) (by rw [World.cell?_alloc_lt _ _ ⟨w.heap.size, 0, none⟩ (by simp; omega)]; simp)
  have st := as_set t ⟨w.heap.size + 1 + 1 + 1, 0, none⟩ e old ((((w.alloc (.cells #[.pointer (some t)] 101)).alloc (.cells #[.pointer (some ⟨6, 101, none⟩), .pointer (some ⟨w.heap.size, 0, none⟩), .int .u64 150] 133)).alloc (.cells #[.pointer (some ⟨6, 101, none⟩), .pointer (some ⟨w.heap.size, 0, none⟩), .int .u64 150] 133)).alloc (.cells #[.pointer (some e)] 87)) (by rw [World.cell?_alloc_at _ _ _ _ (by simp)]; rfl)
    (by rw [World.cell?_of_block (hb4.block _ htl)]; exact ht0) (by rw [World.frozen?_of_block (hb4.block _ htl)]; exact hf0)
  have HB := Lib.hid hb4
  clear hb4
  unfold rtV asVal asSrc asDst at *
  go_enter Tryz.func54, Tryz.ntmps54
  go_wp2
  refine wp_loop_rounds 1 ?_
  rw [rounds_succ]
  go_wp2
  go_ret
  exact ⟨rfl, _, HB.out, rfl⟩
end Go.Proofs.YtgafomknpdnfcaaGreatDoor
