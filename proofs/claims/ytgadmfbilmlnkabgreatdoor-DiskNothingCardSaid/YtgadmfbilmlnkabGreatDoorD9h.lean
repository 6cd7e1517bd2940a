/- disk: grow. -/
import Derived.Test.YtgadmfbilmlnkabGreatDoorD9g
import Derived.Lib.AppendStr
namespace Go.Proofs.YtgadmfbilmlnkabGreatDoor
open Go.RowKit Go.Lib

theorem Tryz.infoByte : (Tryz.prog.info? 5).map (fun i => (i.zero, i.size, i.bytes)) = some (some (.int .u8 0), 1, 1) := by kernel_rfl
theorem info_parts' {P : Program} {t : TypeId} {z : Value} {a b : Nat} (h : (P.info? t).map (fun i => (i.zero, i.size, i.bytes)) = some (some z, a, b)) : ∃ i, P.info? t = some i ∧ i.zero = some z ∧ i.size = a ∧ i.bytes = b := by
  obtain ⟨i, hi, he⟩ := Option.map_eq_some_iff.1 h
  simp only [Prod.mk.injEq] at he
  exact ⟨i, hi, he.1, he.2.1, he.2.2⟩
theorem run_append_string_at {P : Program} (w : World) (base : Nat) (t u ty e : TypeId) (i : TypeInfo) (ht : P.underlying t = some (.slice e)) (hu : P.underlying u = some .string) (hi : P.info? e = some i) (hz : i.zero = some (.int .u8 0))
    (hsize : i.size = 1) (hby : i.bytes = 1) (v : Value) (n : Nat) (xs : List Value) (hown : w.ownsRow base e 1 v n xs) (s : ByteArray)
    (h63 : n + s.size ≤ maxLen) (hbytes : n + s.size ≤ 140737488355328) (hbase : base ≤ w.heap.size) :
    ∃ v' w', (Builtin.append_ #[t, u] ty #[v, .string s]).run P w = .ok v' w' ∧ w'.ownsRow base e 1 v' (n + s.size) (xs ++ strCells s) ∧ w.grownBy w' v.ownBlock ∧ (v'.ownBlock = v.ownBlock ∨ v'.ownBlock = some w.heap.size) := by
  obtain ⟨v', w', hr, h2, h3, h4⟩ := run_append_own_string (P := P) w base t u ty e i ht hu hi hz hsize hby v n xs hown s h63 hbytes hbase
  refine ⟨v', w', hr, h2, h3, ?_⟩
  have hsmall : n + s.size ≤ 9223372036854775807 := by simp only [maxLen] at h63; omega
  have hxl : xs.length = n := by simpa using hown.1
  rcases hown.2 with ⟨rfl, rfl⟩ | ⟨g, cap, cur, rfl, hbg, hg, hnc, hcm, hcs, htake⟩
  · by_cases hm : s.size = 0
    · left; rw [h4.2 ⟨rfl, hm⟩]
    · have hr2 := run_append_nil_string (P := P) w t u ty e i (.int .u8 0) ht hu hi hz s (by omega) (by omega) (by rw [hby]; omega)
      rw [hr] at hr2
      injection hr2 with e1 e2
      right; rw [e1]; rfl
  · by_cases hroom : n + s.size ≤ cap
    · have hr2 := run_append_room_string (P := P) w t u ty e i ht hu hi hsize g n cap cur hg s hroom (by have : cur.size = cap := (by simpa using hcs); omega)
      rw [hr] at hr2
      injection hr2 with e1 e2
      left; rw [e1]; rfl
    · have holds : ∀ j u, xs[j]? = some u → w.cell? ((⟨g, 0, none⟩ : Addr).add j) = some u := hown.cells (g := g) rfl
      have hr2 := run_append_grow_string (P := P) w t u ty e i (.int .u8 0) ht hu hi hz ⟨g, 0, none⟩ n cap xs (by rw [hsize]; simpa using hxl) holds s (by omega) (by omega) (by rw [hby]; exact growslice_fits (by omega) (by omega))
      rw [hr] at hr2
      injection hr2 with e1 e2
      right; rw [e1]; rfl
theorem bc_strCells (s : ByteArray) : strCells s = bc (L s) := by
  simp [strCells, bc, L]
theorem ownsRow_shape {w : World} {B : Nat} {e : TypeId} {size : Nat} {v : Value} {n : Nat} {xs : List Value} (h : w.ownsRow B e size v n xs) : ∃ a c, v = .slice a n c := by
  rcases h.2 with ⟨rfl, rfl⟩ | ⟨g, cap, cur, rfl, _⟩
  · exact ⟨none, 0, rfl⟩
  · exact ⟨_, _, rfl⟩
/-- A row of bytes behind append(row, text...). -/
theorem app_text {B : Nat} {v : Value} {l : List UInt8} {w : World} (ty : Nat) (h : w.ownsRow B 5 1 v l.length (bc l)) (hB : B ≤ w.heap.size) (s : ByteArray) (hl : l.length + s.size ≤ 140737488355328) :
    ∃ a c w', (Builtin.append_ #[81, 9] ty #[v, .string s]).run Tryz.prog w = .ok (.slice a (l.length + s.size) c) w' ∧ w'.ownsRow B 5 1 (.slice a (l.length + s.size) c) (l ++ L s).length (bc (l ++ L s)) ∧ w.grownBy w' v.ownBlock ∧
      ∀ b, (Value.slice a (l.length + s.size) c).ownBlock = some b → v.ownBlock = some b ∨ w.heap.size ≤ b := by
  obtain ⟨i0, hi, hz0, hz1, hz2⟩ := info_parts' Tryz.infoByte
  obtain ⟨v', w', hr, h2, h3, h4⟩ := run_append_string_at (P := Tryz.prog) w B 81 9 ty 5 i0 Tryz.underlying81 Tryz.underlying9 hi hz0 hz1 hz2 v l.length (bc l) h s (by unfold maxLen; omega) hl hB
  obtain ⟨a, c, rfl⟩ := ownsRow_shape h2
  refine ⟨a, c, w', hr, ?_, h3, ?_⟩
  · rw [List.length_append, bc_append, L_length, ← bc_strCells]; exact h2
  · intro b e
    rcases h4 with h4 | h4
    · left; rw [← h4]; exact e
    · right
      rw [h4] at e
      injection e with e
      omega
/-- What an operation did to the files. -/
def Did (B d m : Nat) (sv : Value) (S : DS) (F : List FE) (w : World) (G : List PF) (w' : World) : Prop :=
  ∃ clk' F', DiskAt B d m clk' sv S F' w' ∧ F'.map FE.pl = G ∧ Stays (fpOf d m sv F) w w' ∧ ∀ b, b ∈ fpOf d m sv F' → b ∈ fpOf d m sv F ∨ w.heap.size ≤ b
theorem Did.refl {B d m clk : Nat} {sv : Value} {S : DS} {F : List FE} {w : World} (h : DiskAt B d m clk sv S F w) : Did B d m sv S F w (F.map FE.pl) w := ⟨clk, F, h, rfl, Stays.refl _ _, fun _ hb => .inl hb⟩
/-- Another file of that name. -/
def modP (n : ByteArray) (g : PF → PF) (P : List PF) : List PF := P.map fun p => if p.name = n then g p else p
def hasP (n : ByteArray) (P : List PF) : Bool := P.any fun p => decide (p.name = n)
def growP (n : ByteArray) (x : List UInt8) (P : List PF) : List PF := if hasP n P then modP n (fun p => { p with data := p.data ++ x }) P else P ++ [⟨n, x, 0⟩]
theorem names_tail {F1 F2 : List FE} {f : FE} (h : ((F1 ++ f :: F2).map FE.name).Nodup) : (∀ g, g ∈ F1 → g.name ≠ f.name) ∧ ∀ g, g ∈ F2 → g.name ≠ f.name := by
  rw [List.map_append, List.map_cons, List.nodup_append] at h
  refine ⟨fun g hg e => h.2.2 g.name (List.mem_map.2 ⟨g, hg, rfl⟩) f.name (by simp) e, fun g hg e => ?_⟩
  exact (List.nodup_cons.1 h.2.1).1 (e ▸ List.mem_map.2 ⟨g, hg, rfl⟩)
theorem hasP_hit {F1 F2 : List FE} {f : FE} {n : ByteArray} (hn : f.name = n) : hasP n ((F1 ++ f :: F2).map FE.pl) = true := by
  simp [hasP, FE.pl, hn]
theorem hasP_no {F : List FE} {n : ByteArray} (h : ∀ g, g ∈ F → g.name ≠ n) : hasP n (F.map FE.pl) = false := by
  simp only [hasP, List.any_eq_false, List.mem_map, decide_eq_true_iff]
  rintro p ⟨g, hg, rfl⟩
  exact h g hg
theorem modP_no {F : List FE} {n : ByteArray} {k : PF → PF} (h : ∀ g, g ∈ F → g.name ≠ n) : modP n k (F.map FE.pl) = F.map FE.pl := by
  unfold modP
  rw [List.map_map]
  refine List.map_congr_left (fun g hg => ?_)
  exact if_neg (h g hg)
theorem modP_hit {F1 F2 : List FE} {f f' : FE} {n : ByteArray} {k : PF → PF} (hn : f.name = n) (hnd : ((F1 ++ f :: F2).map FE.name).Nodup) (hk : f'.pl = k f.pl) : (F1 ++ f' :: F2).map FE.pl = modP n k ((F1 ++ f :: F2).map FE.pl) := by
  subst hn
  obtain ⟨h1, h2⟩ := names_tail hnd
  have e1 := modP_no (k := k) h1
  have e2 := modP_no (k := k) h2
  unfold modP at *
  rw [List.map_append, List.map_append, List.map_append, List.map_cons, List.map_cons, List.map_cons, e1, e2, hk]
  congr 2
  exact (if_pos rfl).symm
end Go.Proofs.YtgadmfbilmlnkabGreatDoor
