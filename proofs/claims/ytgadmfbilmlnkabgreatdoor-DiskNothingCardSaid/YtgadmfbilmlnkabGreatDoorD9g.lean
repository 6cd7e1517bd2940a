/- disk: put, drop, grow. -/
import Derived.Test.YtgadmfbilmlnkabGreatDoorD9f
import Derived.Test.YtgadmfbilmlnkabGreatDoorSh
namespace Go.Proofs.YtgadmfbilmlnkabGreatDoor
open Go.RowKit

theorem Clone_any (s : ByteArray) (w : World) (hs : s.size ≤ 140737488355328) :
    Calls Tryz.prog 85 #[.string s] w fun e w' => e = .returned (.string s) ∧ Below w.heap.size w w' := by
  have hC := Lib.hid (fun W => Tryz.stringslite_Clone s W (by omega))
  go_enter Tryz.func85, Tryz.ntmps85
  go_wp2_with (go_at_call 101; refine (hC.out _).mono ?_; rintro e w' ⟨rfl, hb⟩)
  go_ret
  exact ⟨rfl, hb⟩
set_option maxHeartbeats 1000000 in
theorem put_raw {d m clk k : Nat} {es : Array MapEntry} {w : World} (n : ByteArray) (hs : n.size ≤ 140737488355328) (c5 : w.cell? ⟨d, 5, none⟩ = some (.map (some m))) (hm : w.heap[m]? = some (.map es clk)) (hf : Instr.findNow .string (.string n) es.toList 0 = some none) :
    Calls Tryz.prog 65 #[.pointer (some ⟨d, 0, none⟩), .string n, .pointer (some ⟨k, 0, none⟩)] w fun e w' => e = .returned (.tuple #[]) ∧ ∃ w1, Below w.heap.size w w1 ∧ w' = putObj w1 m (.map (es.push { key := .string n, val := .pointer (some ⟨k, 0, none⟩), born := clk }) (clk + 1)) := by
  have hC := Lib.hid (fun W => Clone_any n W hs)
  have hdl : d < w.heap.size := World.block_lt_of_cell? w ⟨d, 5, none⟩ c5
  have hml := lt_of_heap hm
  have K5 : Hid (∀ W, Below w.heap.size w W → W.cell? ⟨d, 5, none⟩ = some (.map (some m))) := Lib.hid (fun W hW => by rw [World.cell?_of_block (hW.block d hdl)]; exact c5)
  have KI : Hid (∀ W, Below w.heap.size w W → (Instr.mapUpdate 26 (.map (some m)) (.string n) (.pointer (some ⟨k, 0, none⟩))).run Tryz.prog W = .ok () (putObj W m (.map (es.push { key := .string n, val := .pointer (some ⟨k, 0, none⟩), born := clk }) (clk + 1)))) :=
    Lib.hid (fun W hW => run_insert n _ (by rw [hW.block m hml]; exact hm) hf)
  have HS := Lib.hid hs
  clear hs hf hm
  go_enter Tryz.func65, Tryz.ntmps65
  go_region_with (go_at_call 85; refine (hC.out _).mono ?_; rintro e w2 ⟨rfl, hb⟩; have hbb : Below w.heap.size w w2 := (Below.refl _ _).drew.trans hb; have k5 := K5.out w2 hbb; have ki := KI.out w2 hbb)
  all_goals (first | refine bodyPost_end (results_none rfl _ _ _) rfl ?_ | refine bodyPost_ret (results_none rfl _ _ _) rfl ?_)
  all_goals exact ⟨rfl, _, hbb, rfl⟩
end Go.Proofs.YtgadmfbilmlnkabGreatDoor
