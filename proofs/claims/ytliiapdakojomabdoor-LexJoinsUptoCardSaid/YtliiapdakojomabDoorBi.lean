/- append(row, text...): where the new row lies. -/
import Derived.Test.YtliiapdakojomabDoorBh
namespace Go.Proofs.YtliiapdakojomabDoor
open Go.RowKit Go.Lib

theorem run_append_string_at {P : Program} (w : World) (base : Nat) (t u ty e : TypeId) (i : TypeInfo) (ht : P.underlying t = some (.slice e)) (hu : P.underlying u = some .string) (hi : P.info? e = some i) (hz : i.zero = some (.int .u8 0))
    (hsize : i.size = 1) (hby : i.bytes = 1) (v : Value) (n : Nat) (xs : List Value) (hown : w.ownsRow base e 1 v n xs) (s : ByteArray)
    (h63 : n + s.size ≤ maxLen) (hbytes : n + s.size ≤ 140737488355328) (hbase : base ≤ w.heap.size) :
    ∃ v' w', (Builtin.append_ #[t, u] ty #[v, .string s]).run P w = .ok v' w' ∧ w'.ownsRow base e 1 v' (n + s.size) (xs ++ strCells s) ∧ w.grownBy w' v.ownBlock ∧ (v'.ownBlock = v.ownBlock ∨ v'.ownBlock = some w.heap.size) := by
  obtain ⟨v', w', hr, h2, h3, h4⟩ := run_append_own_string (P := P) w base t u ty e i ht hu hi hz hsize hby v n xs hown s h63 hbytes hbase
  refine ⟨v', w', hr, h2, h3, ?_⟩
  have hsmall : n + s.size ≤ 9223372036854775807 := by simp only [maxLen] at h63; omega
  have hxl : xs.length = n := by simpa using hown.1
  rcases hown.2 with ⟨rfl, rfl⟩ | ⟨g, cap, cur, rfl, hbg, hg, hnc, hcm, hcs, htake⟩
  · by_cases hm : s.size = 0
    · left; rw [h4.2 ⟨rfl, hm⟩]
    · have hr2 := run_append_nil_string (P := P) w t u ty e i (.int .u8 0) ht hu hi hz s (by omega) (by omega) (by rw [hby]; omega)
      rw [hr] at hr2
      injection hr2 with e1 e2
      right; rw [e1]; rfl
  · by_cases hroom : n + s.size ≤ cap
    · have hr2 := run_append_room_string (P := P) w t u ty e i ht hu hi hsize g n cap cur hg s hroom (by have : cur.size = cap := (by simpa using hcs); omega)
      rw [hr] at hr2
      injection hr2 with e1 e2
      left; rw [e1]; rfl
    · have holds : ∀ j u, xs[j]? = some u → w.cell? ((⟨g, 0, none⟩ : Addr).add j) = some u := hown.cells (g := g) rfl
      have hr2 := run_append_grow_string (P := P) w t u ty e i (.int .u8 0) ht hu hi hz ⟨g, 0, none⟩ n cap xs (by rw [hsize]; simpa using hxl) holds s (by omega) (by omega) (by rw [hby]; exact growslice_fits (by omega) (by omega))
      rw [hr] at hr2
      injection hr2 with e1 e2
      right; rw [e1]; rfl
theorem bc_strCells (s : ByteArray) : strCells s = bc (L s) := by
  simp [strCells, bc, L]
/-- A row of bytes behind append(row, text...). -/
theorem OwnG.text {B : Nat} {v : Value} {l : List UInt8} {w : World} (ty : Nat) (h : w.ownsRow B 5 1 v l.length (bc l)) (hB : B ≤ w.heap.size) (s : ByteArray) (hl : l.length + s.size ≤ 140737488355328) :
    ∃ v' w', (Builtin.append_ #[31, 9] ty #[v, .string s]).run Tryd.prog w = .ok v' w' ∧ OwnG B v v' (l ++ L s) w w' := by
  obtain ⟨i0, hi, hz0, hz1, hz2⟩ := info_parts Tryd.infoByte
  obtain ⟨v', w', hr, h2, h3, h4⟩ := run_append_string_at (P := Tryd.prog) w B 31 9 ty 5 i0 Tryd.underlying31 Tryd.underlying9 hi hz0 hz1 hz2 v l.length (bc l) h s (by unfold maxLen; omega) hl hB
  refine ⟨v', w', hr, ?_, h3, ?_, hB⟩
  · rw [List.length_append, bc_append, L_length, ← bc_strCells]; exact h2
  · intro g e
    rcases h4 with h4 | h4
    · left; rw [← h4]; exact e
    · right
      rw [h4] at e
      injection e with e
      omega
end Go.Proofs.YtliiapdakojomabDoor
